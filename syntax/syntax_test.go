package syntax_test

import (
	"reflect"
	"slices"
	"strings"
	"testing"
	"unsafe"

	"sluice/api"
	"sluice/lex"
	"sluice/syntax"
)

func syntaxAt(at int) api.Fault { return api.Fault{Code: api.ErrSyntax, At: at} }
func deepAt(at int) api.Fault   { return api.Fault{Code: api.ErrDeep, At: at} }
func fullAt(at int) api.Fault   { return api.Fault{Code: api.ErrFull, At: at} }

// node is one as a test tells it.
func node(kind, at int, text string, num int, kids ...int) api.Node {
	return api.Node{Kind: kind, At: at, Text: text, Num: num, Kids: kids}
}

// plain has nil in place of each empty list, as these may be either.
func plain(nodes []api.Node) []api.Node {
	var list []api.Node
	for _, n := range nodes {
		if len(n.Kids) == 0 {
			n.Kids = nil
		}
		list = append(list, n)
	}
	return list
}

func same(a, b []api.Node) bool { return reflect.DeepEqual(plain(a), plain(b)) }

// unplaced are the nodes without their places.
func unplaced(nodes []api.Node) []api.Node {
	list := plain(nodes)
	for i := range list {
		list[i].At = 0
	}
	return list
}

// short is as much of a text as a line about it needs.
func short(text string) string {
	if len(text) <= 300 {
		return text
	}
	return text[:140] + " .. " + text[len(text)-140:]
}

// read holds the nodes of a text that has no fault.
func read(t *testing.T, text string, want ...api.Node) {
	t.Helper()
	got, f := syntax.Parse(text)
	if f != (api.Fault{}) || !same(got, want) {
		t.Errorf("%q: %v %v, want %v", short(text), got, f, want)
	}
}

// readIn holds the nodes of a statement that stands in a thread, ahead of those that are around it.
func readIn(t *testing.T, text string, want ...api.Node) {
	t.Helper()
	last := len(want) - 1
	want = append(want, node(api.NBlock, -1, "", 0, last), node(api.NThread, -7, "", 0, last+1), node(api.NProgram, -7, "", 0, last+2))
	for i := range want {
		want[i].At += 7
	}
	read(t, "thread{"+text+"}", want...)
}

// readAs holds the nodes of an expression that is printed; places are those in it.
func readAs(t *testing.T, text string, want ...api.Node) {
	t.Helper()
	for i := range want {
		want[i].At += 6
	}
	readIn(t, "print("+text+");", append(want, node(api.NPrint, 0, "", 0, len(want)-1))...)
}

// refused holds the fault of a text, beside which nothing is told.
func refused(t *testing.T, text string, want api.Fault) {
	t.Helper()
	if got, f := syntax.Parse(text); f != want || len(got) != 0 {
		t.Errorf("%q: %v %v, want %v", short(text), got, f, want)
	}
	if got, f := syntax.Print(text); f != want || got != "" {
		t.Errorf("%q is printed %q %v, want %v", short(text), got, f, want)
	}
}

// fine holds that a text has no fault.
func fine(t *testing.T, text string) {
	t.Helper()
	if got, f := syntax.Parse(text); f != (api.Fault{}) || len(got) == 0 {
		t.Errorf("%q: %v", short(text), f)
	}
	wellPrinted(t, text)
}

// asTheOracle holds the fault of a text, or that there is none, against the second writing.
func asTheOracle(t *testing.T, text string) api.Fault {
	t.Helper()
	want := faultOf(text)
	if want.Code != api.OK {
		refused(t, text, want)
	} else {
		fine(t, text)
	}
	return want
}

// printed holds what is printed of a text, to the byte.
func printed(t *testing.T, text, want string) {
	t.Helper()
	if got, f := syntax.Print(text); f != (api.Fault{}) || got != want {
		t.Errorf("%q is printed %q %v, want %q", short(text), got, f, want)
	}
}

// wellPrinted holds all that is said of what is printed: the same nodes, the layout, no parentheses that need not be.
func wellPrinted(t *testing.T, text string) {
	t.Helper()
	got, f := syntax.Print(text)
	if f != (api.Fault{}) {
		t.Errorf("%q is not printed: %v", short(text), f)
		return
	}
	tokens, f := lex.Scan(got)
	if f.Code == api.ErrSize {
		return
	}
	if want := laidOut(tokens); f != (api.Fault{}) || got != want && len(tokens) > 0 {
		t.Errorf("%q is printed %q %v, laid out it is %q", short(text), got, f, want)
	}
	nodes, _ := syntax.Parse(text)
	again, f := syntax.Parse(got)
	if f != (api.Fault{}) || !reflect.DeepEqual(unplaced(nodes), unplaced(again)) {
		t.Errorf("%q is printed %q, which is read %v %v, not %v", short(text), got, again, f, nodes)
	}
	printed(t, got, got)
	noneToSpare(t, got, again)
}

// noneToSpare holds that without two parentheses of a text, each time two that belong together, something else is read.
func noneToSpare(t *testing.T, text string, nodes []api.Node) {
	t.Helper()
	var open []int
	for at := range len(text) {
		switch text[at] {
		case '(':
			open = append(open, at)
		case ')':
			from := open[len(open)-1]
			open = open[:len(open)-1]
			without := text[:from] + " " + text[from+1:at] + " " + text[at+1:]
			if less, f := syntax.Parse(without); f.Code == api.OK && reflect.DeepEqual(unplaced(nodes), unplaced(less)) {
				t.Errorf("%q has parentheses at %d and %d that need not be", short(text), from, at)
			}
		}
	}
}

// I1: programs, globals, locks, threads, blocks.
func TestOutermost(t *testing.T) {
	for _, text := range []string{"", " ", "\n\t\r", "// int x;", " // thread {\n"} {
		read(t, text, node(1, 0, "", 0))
	}
	read(t, "int x;", node(2, 0, "x", 0), node(1, 0, "", 0, 0))
	read(t, "int x=0;", node(2, 0, "x", 0), node(1, 0, "", 0, 0))
	read(t, "int x=-0;", node(2, 0, "x", 0), node(1, 0, "", 0, 0))
	read(t, " int x = 5 ;", node(2, 1, "x", 5), node(1, 0, "", 0, 0))
	read(t, "int abcdefghijkl=999999999;", node(2, 0, "abcdefghijkl", 999999999), node(1, 0, "", 0, 0))
	read(t, "int x = - // minus\n999999999;", node(2, 0, "x", -999999999), node(1, 0, "", 0, 0))
	read(t, "\tlock m;", node(3, 1, "m", 0), node(1, 0, "", 0, 0))
	read(t, "lock m;int x=-7;lock m;int x;", node(3, 0, "m", 0), node(2, 7, "x", -7), node(3, 16, "m", 0), node(2, 23, "x", 0), node(1, 0, "", 0, 0, 1, 2, 3))
	read(t, "thread{}", node(5, 6, "", 0), node(4, 0, "", 0, 0), node(1, 0, "", 0, 1))
	read(t, " thread { } thread\n{ fence; }", node(5, 8, "", 0), node(4, 1, "", 0, 0), node(14, 21, "", 0), node(5, 19, "", 0, 2), node(4, 12, "", 0, 3), node(1, 0, "", 0, 1, 4))
	read(t, "int x;thread{}", node(2, 0, "x", 0), node(5, 12, "", 0), node(4, 6, "", 0, 1), node(1, 0, "", 0, 0, 2))
}

// I1: each statement.
func TestStatements(t *testing.T) {
	readIn(t, "int x=1;", node(15, 6, "", 1), node(6, 0, "x", 0, 0))
	readIn(t, "x=1;", node(15, 2, "", 1), node(7, 0, "x", 0, 0))
	readIn(t, "x=cas(y,1,z);", node(16, 6, "y", 0), node(15, 8, "", 1), node(16, 10, "z", 0), node(8, 0, "x", 0, 0, 1, 2))
	readIn(t, "x=cas(x,-1,(2+x));", node(16, 6, "x", 0), node(15, 9, "", 1), node(17, 8, "", 0, 1), node(15, 12, "", 2), node(16, 14, "x", 0), node(19, 13, "+", 0, 3, 4), node(8, 0, "x", 0, 0, 2, 5))
	readIn(t, "if(x){}", node(16, 3, "x", 0), node(5, 5, "", 0), node(9, 0, "", 0, 0, 1))
	readIn(t, "if(0){}else{}", node(15, 3, "", 0), node(5, 5, "", 0), node(5, 11, "", 0), node(9, 0, "", 0, 0, 1, 2))
	readIn(t, "if(x){fence;}else{x=2;fence;}",
		node(16, 3, "x", 0), node(14, 6, "", 0), node(5, 5, "", 0, 1),
		node(15, 20, "", 2), node(7, 18, "x", 0, 3), node(14, 22, "", 0), node(5, 17, "", 0, 4, 5), node(9, 0, "", 0, 0, 2, 6))
	readIn(t, "while(1){print(2);}", node(15, 6, "", 1), node(15, 15, "", 2), node(11, 9, "", 0, 1), node(5, 8, "", 0, 2), node(10, 0, "", 0, 0, 3))
	readIn(t, "print(x);", node(16, 6, "x", 0), node(11, 0, "", 0, 0))
	readIn(t, "lock(m);", node(12, 0, "m", 0))
	readIn(t, "unlock(m);", node(13, 0, "m", 0))
	readIn(t, "fence;", node(14, 0, "", 0))
	// the else of the nearest if
	readIn(t, "if(1){if(2){}}else{}", node(15, 3, "", 1), node(15, 9, "", 2), node(5, 11, "", 0), node(9, 6, "", 0, 1, 2), node(5, 5, "", 0, 3), node(5, 18, "", 0), node(9, 0, "", 0, 0, 4, 5))
	readIn(t, "if(1){if(2){}else{}}", node(15, 3, "", 1), node(15, 9, "", 2), node(5, 11, "", 0), node(5, 17, "", 0), node(9, 6, "", 0, 1, 2, 3), node(5, 5, "", 0, 4), node(9, 0, "", 0, 0, 5))
}

// I1: expressions of one part, signs ahead, parentheses.
func TestExpressions(t *testing.T) {
	readAs(t, "7", node(15, 0, "", 7))
	readAs(t, "0", node(15, 0, "", 0))
	readAs(t, "x", node(16, 0, "x", 0))
	readAs(t, "(x)", node(16, 1, "x", 0))
	readAs(t, "((( 5)))", node(15, 4, "", 5))
	readAs(t, "-5", node(15, 1, "", 5), node(17, 0, "", 0, 0))
	readAs(t, "!x", node(16, 1, "x", 0), node(18, 0, "", 0, 0))
	readAs(t, "--x", node(16, 2, "x", 0), node(17, 1, "", 0, 0), node(17, 0, "", 0, 1))
	readAs(t, "!-!(x)", node(16, 4, "x", 0), node(18, 2, "", 0, 0), node(17, 1, "", 0, 1), node(18, 0, "", 0, 2))
	readAs(t, "-(-x)", node(16, 3, "x", 0), node(17, 2, "", 0, 0), node(17, 0, "", 0, 1))
	readAs(t, "-x*y", node(16, 1, "x", 0), node(17, 0, "", 0, 0), node(16, 3, "y", 0), node(19, 2, "*", 0, 1, 2))
	readAs(t, "x*-y", node(16, 0, "x", 0), node(16, 3, "y", 0), node(17, 2, "", 0, 1), node(19, 1, "*", 0, 0, 2))
	readAs(t, "x- -y", node(16, 0, "x", 0), node(16, 4, "y", 0), node(17, 3, "", 0, 1), node(19, 1, "-", 0, 0, 2))
	readAs(t, "x--1", node(16, 0, "x", 0), node(15, 3, "", 1), node(17, 2, "", 0, 1), node(19, 1, "-", 0, 0, 2))
	readAs(t, "!x==y", node(16, 1, "x", 0), node(18, 0, "", 0, 0), node(16, 4, "y", 0), node(19, 2, "==", 0, 1, 2))
	readAs(t, "!(x==y)", node(16, 2, "x", 0), node(16, 5, "y", 0), node(19, 3, "==", 0, 0, 1), node(18, 0, "", 0, 2))
	readAs(t, "-(1+2)*3", node(15, 2, "", 1), node(15, 4, "", 2), node(19, 3, "+", 0, 0, 1), node(17, 0, "", 0, 2), node(15, 7, "", 3), node(19, 6, "*", 0, 3, 4))
	readAs(t, "1-(2-3)", node(15, 0, "", 1), node(15, 3, "", 2), node(15, 5, "", 3), node(19, 4, "-", 0, 1, 2), node(19, 1, "-", 0, 0, 3))
}

// I1: of each two signs between the tighter one binds first, of one level the left one.
func TestLevels(t *testing.T) {
	levels := [][]string{{"||"}, {"&&"}, {"==", "!=", "<", "<=", ">", ">="}, {"+", "-"}, {"*"}}
	for i, list := range levels {
		for _, left := range list {
			readAs(t, "a"+left+"b", node(16, 0, "a", 0), node(16, 1+len(left), "b", 0), node(19, 1, left, 0, 0, 1))
			for j, other := range levels {
				for _, right := range other {
					twoSigns(t, left, right, j > i)
				}
			}
		}
	}
	read(t, "thread{x=a||b&&c<d+e*f;}",
		node(16, 9, "a", 0), node(16, 12, "b", 0), node(16, 15, "c", 0), node(16, 17, "d", 0), node(16, 19, "e", 0), node(16, 21, "f", 0),
		node(19, 20, "*", 0, 4, 5), node(19, 18, "+", 0, 3, 6), node(19, 16, "<", 0, 2, 7), node(19, 13, "&&", 0, 1, 8), node(19, 10, "||", 0, 0, 9),
		node(7, 7, "x", 0, 10), node(5, 6, "", 0, 11), node(4, 0, "", 0, 12), node(1, 0, "", 0, 13))
	read(t, "thread{x=a*b+c<d&&e||f;}",
		node(16, 9, "a", 0), node(16, 11, "b", 0), node(19, 10, "*", 0, 0, 1), node(16, 13, "c", 0), node(19, 12, "+", 0, 2, 3), node(16, 15, "d", 0),
		node(19, 14, "<", 0, 4, 5), node(16, 18, "e", 0), node(19, 16, "&&", 0, 6, 7), node(16, 21, "f", 0), node(19, 19, "||", 0, 8, 9),
		node(7, 7, "x", 0, 10), node(5, 6, "", 0, 11), node(4, 0, "", 0, 12), node(1, 0, "", 0, 13))
}

func twoSigns(t *testing.T, left, right string, rightFirst bool) {
	t.Helper()
	a, b := node(16, 0, "a", 0), node(16, 1+len(left), "b", 0)
	at := 2 + len(left)
	c := node(16, at+len(right), "c", 0)
	text := "a" + left + "b" + right + "c"
	if rightFirst {
		readAs(t, text, a, b, c, node(19, at, right, 0, 1, 2), node(19, 1, left, 0, 0, 3))
	} else {
		readAs(t, text, a, b, node(19, 1, left, 0, 0, 1), c, node(19, at, right, 0, 2, 3))
	}
	twoSignsPrinted(t, left, right, rightFirst)
}

// I3: parentheses of two signs, just where they have to be.
func twoSignsPrinted(t *testing.T, left, right string, rightFirst bool) {
	t.Helper()
	bare := "a " + left + " b " + right + " c"
	first, second := "(a "+left+" b) "+right+" c", "a "+left+" (b "+right+" c)"
	want := map[string]string{bare: bare, first: first, second: second}
	if rightFirst {
		want[second] = bare
	} else {
		want[first] = bare
	}
	for text, s := range want {
		printed(t, "thread{print("+text+");}", "thread {\n\tprint("+s+");\n}\n")
	}
	printed(t, "thread{print(-(a"+left+"b));}", "thread {\n\tprint(-(a "+left+" b));\n}\n")
	printed(t, "thread{print(!(a"+left+"b));}", "thread {\n\tprint(!(a "+left+" b));\n}\n")
	printed(t, "thread{print((-a)"+left+"(!(b)));}", "thread {\n\tprint(-a "+left+" !b);\n}\n")
}

// I1: Scan's faults come first, wherever they stand.
func TestFaultsOfScan(t *testing.T) {
	refused(t, "thread &", syntaxAt(7))
	refused(t, "thread } 00", syntaxAt(9))
	refused(t, ") abcdefghijklm", syntaxAt(2))
	refused(t, ") // é", api.Fault{Code: api.ErrRune, At: 5})
	refused(t, "int x;\x00", api.Fault{Code: api.ErrRune, At: 6})
	refused(t, "int x=1234567890;", syntaxAt(6))
	refused(t, "thread{x=1/2;}", syntaxAt(10))
	refused(t, "thread{x="+strings.Repeat("(", 30)+"A", syntaxAt(39))
	size := api.Fault{Code: api.ErrSize}
	refused(t, strings.Repeat(" ", 4001), size)
	refused(t, "thread{}"+strings.Repeat(" ", 3993), size)
	fine(t, "thread{}"+strings.Repeat(" ", 3992))
	refused(t, strings.Repeat("(", 4001), size)
	refused(t, strings.Repeat("thread{}", 1<<17), size)
}

// I2: the first token that cannot stand, or the text's length.
func TestNoProgram(t *testing.T) {
	for _, x := range []struct {
		text string
		at   int
	}{
		{"x", 0}, {"1", 0}, {";", 0}, {"{}", 0}, {"fence;", 0}, {"print(1);", 0}, {"unlock(m);", 0}, {"if(1){}", 0}, {"cas", 0}, {"else", 0}, {"  )", 2},
		{"int", 3}, {"int ", 4}, {"int // x", 8}, {"int int", 4}, {"int 1", 4}, {"int x", 5}, {"int x x", 6}, {"int x=", 6}, {"int x=;", 6}, {"int x=y;", 6}, {"int x=-", 7}, {"int x=--1;", 7}, {"int x=-y;", 7}, {"int x=!1;", 6}, {"int x=+1;", 6}, {"int x=(1);", 6}, {"int x=1", 7}, {"int x=1+1;", 7}, {"int x=1,y;", 7}, {"int x,y;", 5}, {"int x==1;", 5}, {"int x;;", 6}, {"int x=cas(x,1,2);", 6},
		{"lock", 4}, {"lock 1", 5}, {"lock m", 6}, {"lock m=1;", 6}, {"lock(m);", 4}, {"lock lock;", 5}, {"lock m,n;", 6},
		{"thread", 6}, {"thread;", 6}, {"thread x", 7}, {"thread(", 6}, {"thread{", 7}, {"thread{ ", 8}, {"thread{}}", 8}, {"thread{};", 8}, {"thread{{}}", 7}, {"thread{;}", 7}, {"thread{)", 7}, {"thread{thread{}}", 7}, {"thread thread{}", 7},
		{"thread{}int x;", 8}, {"thread{}lock m;", 8}, {"thread{}thread{}int x;", 16}, {"thread{}x", 8}, {"thread{}fence;", 8},
		{"thread{int x;}", 12}, {"thread{int=1;}", 10}, {"thread{int 1=1;}", 11}, {"thread{int x=;}", 13}, {"thread{int x=cas(y,1,2);}", 13}, {"thread{int x=1}", 14}, {"thread{int x=1", 14}, {"thread{lock m;}", 12},
		{"thread{x;}", 8}, {"thread{x 1;}", 9}, {"thread{x==1;}", 8}, {"thread{x=;}", 9}, {"thread{x=1}", 10}, {"thread{x=1,2;}", 10}, {"thread{x=y=1;}", 10}, {"thread{x=1 2;}", 11}, {"thread{x=1 y;}", 11}, {"thread{x=1);}", 10}, {"thread{x=int;}", 9}, {"thread{1=x;}", 7}, {"thread{(x)=1;}", 7}, {"thread{-x;}", 7},
		{"thread{x=cas;}", 12}, {"thread{x=cas x,1,2);}", 13}, {"thread{x=cas();}", 13}, {"thread{x=cas(1,2,3);}", 13}, {"thread{x=cas((y),2,3);}", 13}, {"thread{x=cas(y);}", 14}, {"thread{x=cas(y+1,1,2);}", 14}, {"thread{x=cas(y,1);}", 16}, {"thread{x=cas(y,1,2,3);}", 18}, {"thread{x=cas(y,,2);}", 15}, {"thread{x=cas(y,1,2)}", 19}, {"thread{x=cas(y,1,2)+1;}", 19}, {"thread{x=1+cas(y,1,2);}", 11}, {"thread{x=(cas(y,1,2));}", 10}, {"thread{x=-cas(y,1,2);}", 10}, {"thread{cas(y,1,2);}", 7}, {"thread{print(cas(y,1,2));}", 13}, {"thread{x=cas(cas,1,2);}", 13}, {"thread{x=cas(y,1,cas(y,1,2));}", 17},
		{"thread{if", 9}, {"thread{if x{}}", 10}, {"thread{if(){}}", 10}, {"thread{if(x}", 11}, {"thread{if(x)fence;}", 12}, {"thread{if(x);}", 12}, {"thread{if(x){", 13}, {"thread{if(x){}else", 18}, {"thread{if(x){}else fence;}", 19}, {"thread{if(x){}else if(y){}}", 19}, {"thread{if(x){}else{}else{}}", 20}, {"thread{else{}}", 7}, {"thread{if(x){};}", 14}, {"thread{if(x=1){}}", 11}, {"thread{if(x){}};", 15},
		{"thread{while", 12}, {"thread{while{}", 12}, {"thread{while(){}}", 13}, {"thread{while(1)x=1;}", 15}, {"thread{while(1){}else{}}", 17}, {"thread{while(1){}", 17},
		{"thread{print;}", 12}, {"thread{print x;}", 13}, {"thread{print();}", 13}, {"thread{print(1,2);}", 14}, {"thread{print(1)}", 15}, {"thread{print(1);", 16},
		{"thread{lock;}", 11}, {"thread{lock();}", 12}, {"thread{lock(1);}", 12}, {"thread{lock((m));}", 12}, {"thread{lock(m+1);}", 13}, {"thread{lock(m)}", 14}, {"thread{unlock m;}", 14}, {"thread{unlock(m,n);}", 15}, {"thread{unlock(-m);}", 14},
		{"thread{fence}", 12}, {"thread{fence();}", 12}, {"thread{fence", 12},
		{"thread{x=+1;}", 9}, {"thread{x=1+;}", 11}, {"thread{x=1++1;}", 11}, {"thread{x=*1;}", 9}, {"thread{x=1<;}", 11}, {"thread{x=1!2;}", 10}, {"thread{x=1!;}", 10}, {"thread{x=!;}", 10}, {"thread{x=-;}", 10}, {"thread{x=();}", 10}, {"thread{x=(1;}", 11}, {"thread{x=(1", 11}, {"thread{x=(1,2);}", 11}, {"thread{x=((1);}", 13}, {"thread{x=1(2);}", 10}, {"thread{x=y(2);}", 10}, {"thread{x=a&&;}", 12}, {"thread{x=a||&&b;}", 12}, {"thread{x=a===b;}", 12}, {"thread{x=if;}", 9}, {"thread{x={};}", 9}, {"thread{x=a<=>b;}", 12}, {"thread{x=-(1;}", 12}, {"thread{x=- -;}", 12},
	} {
		refused(t, x.text, syntaxAt(x.at))
		if got := faultOf(x.text); got != syntaxAt(x.at) {
			t.Errorf("%q: the second writing tells %v", x.text, got)
		}
	}
}

// several are texts one behind the other.
func several(n int, text string) string { return strings.Repeat(text, n) }

// I2: as many things within one another as there may be, and one more.
func TestDeep(t *testing.T) {
	for _, x := range []struct {
		ahead string // what stands ahead of the things that open
		open  int    // how many it opens
		more  string // what opens one more
		rest  string
		shut  string // what shuts one
		end   string
	}{
		{"thread{x=", 1, "(", "1", ")", ";}"},
		{"thread{x=", 1, "-", "1", "", ";}"},
		{"thread{x=", 1, "!", "y", "", ";}"},
		{"thread{int x=2*", 1, "-", "y", "", "+1;}"},
		{"thread{print(", 2, "(", "1", ")", ");}"},
		{"thread{print(-", 3, "(", "1", ")", ");}"},
		{"thread{print((1)-(", 3, "-", "1", "", "));}"},
		{"thread{x=cas(y,", 2, "!", "1", "", ",2);}"},
		{"thread{x=cas(y,1,", 2, "(", "1", ")", ");}"},
		{"thread{if(1){while(1){x=1-", 3, "(", "1", ")", ";}}}"},
		{"thread{if(", 2, "(", "1", ")", "){}}"},
		{"thread{if(1){}else{while(", 3, "-", "1", "", "){}}}"},
		{"thread{", 1, "if(1){", "fence;", "}", "}"},
		{"thread{", 1, "while(x){", "", "}", "}"},
		{"thread{", 1, "if(1){}else{", "x=1;", "}", "}"},
		{"thread{}thread{}thread{", 1, "while(x){", "", "}", "}"},
	} {
		most := 20 - x.open
		fine(t, x.ahead+several(most, x.more)+x.rest+several(most, x.shut)+x.end)
		text := x.ahead + several(most+1, x.more) + x.rest + several(most+1, x.shut) + x.end
		// ahead of a block's brace it is the parenthesis that is too much already
		refused(t, text, deepAt(len(x.ahead)+most*len(x.more)+strings.IndexAny(x.more, "(-!")))
	}
}

// I2: what opens, what shuts, and which fault it is.
func TestDeepEdges(t *testing.T) {
	blocks := "thread{" + several(19, "if(1){") // 20 braces
	shut := several(20, "}")
	at := len(blocks)
	fine(t, blocks+"x=1;fence;int y=2*3-1;"+shut)
	refused(t, blocks+"print(1);"+shut, deepAt(at+5))
	refused(t, blocks+"lock(m);"+shut, deepAt(at+4))
	refused(t, blocks+"unlock(m);"+shut, deepAt(at+6))
	refused(t, blocks+"if(1){}"+shut, deepAt(at+2))
	refused(t, blocks+"while(1){}"+shut, deepAt(at+5))
	refused(t, blocks+"x=cas(x,1,2);"+shut, deepAt(at+5))
	refused(t, blocks+"x=(1);"+shut, deepAt(at+2))
	refused(t, blocks+"x=-1;"+shut, deepAt(at+2))
	refused(t, blocks+"x=1+!y;"+shut, deepAt(at+4))
	fine(t, blocks[:at-6]+"x=(1)-(2);print(3);lock(m);x=-1-!2;if(1){}else{}while(1){}"+shut[1:])
	refused(t, blocks[:at-6]+"if(-1){}"+shut[1:], deepAt(at-6+3))
	refused(t, blocks[:at-6]+"print((1));"+shut[1:], deepAt(at-6+6))

	// where it cannot stand
	refused(t, blocks+"{"+shut, syntaxAt(at))
	refused(t, blocks+"("+shut, syntaxAt(at))
	refused(t, blocks+"-"+shut, syntaxAt(at))
	refused(t, blocks+"x=1!2;"+shut, syntaxAt(at+3))
	refused(t, blocks+"x=1(2);"+shut, syntaxAt(at+3))
	refused(t, blocks+"fence();"+shut, syntaxAt(at+5))
	refused(t, blocks+"x={};"+shut, syntaxAt(at+2))
	refused(t, blocks+"print{1};"+shut, syntaxAt(at+5))

	// the first one from the left, whichever it is
	refused(t, "thread{x="+several(20, "("), deepAt(9+19))
	refused(t, "thread{x="+several(19, "("), syntaxAt(9+19))
	refused(t, "thread{x="+several(20, "-")+")", deepAt(9+19))
	refused(t, "thread{x="+several(19, "-")+")(", syntaxAt(9+19))
	refused(t, "thread{x=1}x="+several(30, "(")+"1"+several(30, ")")+";}", syntaxAt(10))
	refused(t, "thread{x="+several(30, "(")+"1"+several(30, ")")+";}}", deepAt(9+19))
	refused(t, "thread{x="+several(3900, "("), deepAt(9+19))
	refused(t, "thread{x="+several(3900, "!"), deepAt(9+19))
	refused(t, several(3900, "{"), syntaxAt(0))
	refused(t, "thread"+several(3900, "{"), syntaxAt(7))
	refused(t, "thread{"+several(600, "if(1){"), deepAt(at+2))

	// what was shut is open no longer
	minus := several(19, "-") + "1"
	fine(t, "thread{x="+minus+"-"+minus+"*"+minus+";x="+minus+";print("+minus[1:]+");}thread{x="+minus+";}")
	parens := several(19, "(") + "1" + several(19, ")")
	fine(t, "thread{x="+parens+"<"+parens+";x=cas(x,"+parens[1:37]+"),"+parens[1:37]+"));}")
	fine(t, "thread{x=-"+parens[1:37]+")-"+minus+";}")
	refused(t, "thread{x=-"+parens+";}", deepAt(10+18))
	fine(t, "thread{x="+several(200, "1-")+"1;}")
	fine(t, "thread{"+several(60, "if(-1){}while((2)){}")+"}")
	fine(t, several(100, "thread{}"))
	fine(t, several(20, "int x=-1;")+"thread{x="+minus+";}")
}

// filled is a program of this many nodes that has in it these globals, and this statement or none.
func filled(nodes int, globals, statement string) string {
	begin := globals + "thread{" + statement
	tokens, _ := lex.Scan(begin + "}")
	missing := nodes - countNodes(tokens)
	if missing%2 == 1 {
		begin, missing = begin+"fence;", missing-1
	}
	return begin + "x=" + several(missing/2-1, "1+") + "1;}"
}

// I2: as many nodes as there may be, of each kind some, and one more.
func TestFull(t *testing.T) {
	for _, x := range []struct{ globals, statement string }{
		{}, {"int x;", ""}, {"int x=-5;", ""}, {"lock m;", ""}, {"thread{}", ""}, {"int x;lock m;thread{fence;}", ""},
		{"", "fence;"}, {"", "lock(m);"}, {"", "unlock(m);"}, {"", "print(1);"}, {"", "int x=y;"}, {"", "x=-1;"}, {"", "x=!((y));"},
		{"", "x=cas(y,1,2);"}, {"", "if(1){}"}, {"", "if(1){}else{}"}, {"", "while((1)){print(x-(1));}"},
	} {
		text := filled(600, x.globals, x.statement)
		nodes, f := syntax.Parse(text)
		if f != (api.Fault{}) || len(nodes) != 600 {
			t.Errorf("%v: %d nodes, %v", x, len(nodes), f)
		}
		fine(t, text)
		for _, blanks := range []string{"", " ", "\n// note"} {
			text := filled(601, x.globals, x.statement) + blanks
			refused(t, text, fullAt(len(text)))
			text = filled(602, x.globals, x.statement) + blanks
			refused(t, text, fullAt(len(text)))
		}
	}
	for _, x := range []struct {
		ahead, more, end string
		most             int
	}{{"", "int x;", "", 599}, {"thread{", "fence;", "}", 597}, {"", "thread{}", "", 299}, {"thread{", "x=1;", "}", 298}, {"thread{", "if(1){}", "}", 199}} {
		fine(t, x.ahead+several(x.most, x.more)+x.end)
		text := x.ahead + several(x.most+1, x.more) + x.end
		refused(t, text, fullAt(len(text)))
	}
	longest := "thread{x=" + several(1994, "1+") + "1;}"
	refused(t, longest, fullAt(4000))
}

// I2: ErrFull is told at last.
func TestFullAtLast(t *testing.T) {
	many := "thread{" + several(600, "fence;")
	refused(t, many+"}", fullAt(len(many)+1))
	refused(t, many, syntaxAt(len(many)))
	refused(t, many+"}}", syntaxAt(len(many)+1))
	refused(t, many+"x=", syntaxAt(len(many)+2))
	refused(t, many+"}lock m;", syntaxAt(len(many)+1))
	refused(t, many+"x="+several(20, "(")+"1"+several(20, ")")+";}", deepAt(len(many)+2+19))
	refused(t, many+"} &", syntaxAt(len(many)+2))
}

// I3: the one form, line by line.
func TestPrint(t *testing.T) {
	for _, x := range []struct{ text, want string }{
		{"", ""},
		{" // note\n", ""},
		{"int x;", "int x;\n"},
		{"int x=0;", "int x;\n"},
		{"int x=-0;", "int x;\n"},
		{"int  x = 7 ;", "int x = 7;\n"},
		{"int x=- 7;", "int x = -7;\n"},
		{"int x=-999999999;int y=999999999;", "int x = -999999999;\nint y = 999999999;\n"},
		{"lock m;int x;lock n;", "lock m;\nint x;\nlock n;\n"},
		{"thread{}", "thread {\n}\n"},
		{"thread{}thread{fence;}", "thread {\n}\nthread {\n\tfence;\n}\n"},
		{"int x;thread{x=1+2*3;}", "int x;\nthread {\n\tx = 1 + 2 * 3;\n}\n"},
		{"thread{int x=1;x=x;}", "thread {\n\tint x = 1;\n\tx = x;\n}\n"},
		{"thread{x=cas(y,(1),(2)-3);}", "thread {\n\tx = cas(y, 1, 2 - 3);\n}\n"},
		{"thread{x=cas(y,-1,!(a||b));}", "thread {\n\tx = cas(y, -1, !(a || b));\n}\n"},
		{"thread{lock(m);unlock(m);print((x));fence;}", "thread {\n\tlock(m);\n\tunlock(m);\n\tprint(x);\n\tfence;\n}\n"},
		{"thread{if(x){}}", "thread {\n\tif (x) {\n\t}\n}\n"},
		{"thread{if((x)){}else{}}", "thread {\n\tif (x) {\n\t} else {\n\t}\n}\n"},
		{"thread{while(1){while(0){if(2){fence;}else{x=3;}}}fence;}", "thread {\n\twhile (1) {\n\t\twhile (0) {\n\t\t\tif (2) {\n\t\t\t\tfence;\n\t\t\t} else {\n\t\t\t\tx = 3;\n\t\t\t}\n\t\t}\n\t}\n\tfence;\n}\n"},
		{"thread{print(- - 1);print(! ! x);print(-!-x);}", "thread {\n\tprint(--1);\n\tprint(!!x);\n\tprint(-!-x);\n}\n"},
		{"thread{print(1- -1);print(1-(-(1)));print((-1)-1);}", "thread {\n\tprint(1 - -1);\n\tprint(1 - -1);\n\tprint(-1 - 1);\n}\n"},
		{"thread{print(-(1));print(-(1*2));print(-(-(1)));}", "thread {\n\tprint(-1);\n\tprint(-(1 * 2));\n\tprint(--1);\n}\n"},
		{"thread{print(((a+b))+((c)));print(a+(b+c));print(a-(b+c));print(a*(b*c));}", "thread {\n\tprint(a + b + c);\n\tprint(a + (b + c));\n\tprint(a - (b + c));\n\tprint(a * (b * c));\n}\n"},
		{"thread{print((a<b)<c);print(a==(b!=c));print((a||b)&&c);print(a||(b&&c));}", "thread {\n\tprint(a < b < c);\n\tprint(a == (b != c));\n\tprint((a || b) && c);\n\tprint(a || b && c);\n}\n"},
	} {
		printed(t, x.text, x.want)
		wellPrinted(t, x.text)
	}
}

// I3: what is printed may be longer than MaxText.
func TestPrintedLong(t *testing.T) {
	text := "thread{" + several(19, "if(1){") + several(500, "fence;") + several(20, "}")
	want := "thread {\n"
	for i := range 19 {
		want += several(i+1, "\t") + "if (1) {\n"
	}
	want += several(500, several(20, "\t")+"fence;\n")
	for i := range 20 {
		want += several(19-i, "\t") + "}\n"
	}
	if len(want) <= api.MaxText {
		t.Fatal(len(want))
	}
	printed(t, text, want)
}

// examples have each kind of node, and each token in each place where it can stand.
func examples() []string {
	return []string{
		"int x=-2;lock m;thread{x=cas(x,1,2*3);}",
		"int x;int y=3;thread{int a=x;while(!(a<3)){a=a+1;print(-a);}}thread{fence;}",
		"lock m;thread{lock(m);if(x==1&&y){unlock(m);}else{x=(1||2)-3;}}",
		"thread{}thread{if(a){}fence;}",
	}
}

func tokenTexts() []string {
	return []string{"int", "lock", "unlock", "thread", "if", "else", "while", "print", "fence", "cas",
		"+", "-", "*", "<", "<=", ">", ">=", "==", "!=", "&&", "||", "!", "(", ")", "{", "}", ";", ",", "=", "x", "7"}
}

// texts are those of the tokens of a text.
func texts(text string) []string {
	tokens, _ := lex.Scan(text)
	var list []string
	for _, token := range tokens {
		list = append(list, token.Text)
	}
	return list
}

// I1, I2: examples in which one token is missing, is another one, or is one too many; and their beginnings.
func TestOneTokenWrong(t *testing.T) {
	count := map[api.Errno]int{}
	for _, example := range examples() {
		list := texts(example)
		count[asTheOracle(t, example).Code]++
		for i := range len(list) + 1 {
			asTheOracle(t, strings.Join(list[:i], " "))
			asTheOracle(t, strings.Join(list[i:], " "))
			for _, token := range tokenTexts() {
				count[asTheOracle(t, strings.Join(slices.Concat(list[:i], []string{token}, list[i:]), " ")).Code]++
				if i < len(list) {
					count[asTheOracle(t, strings.Join(slices.Concat(list[:i], []string{token}, list[i+1:]), " ")).Code]++
				}
			}
			if i < len(list) {
				asTheOracle(t, strings.Join(slices.Delete(slices.Clone(list), i, i+1), " "))
			}
		}
	}
	if count[api.OK] < 200 || count[api.ErrSyntax] < 500 {
		t.Errorf("%v: too few of one kind to tell anything", count)
	}
}

// I1, I2: behind each of these beginnings all short lists of tokens that can stand there, and each token that cannot.
func TestShortTexts(t *testing.T) {
	tokens, _ := lex.Scan(strings.Join(tokenTexts(), " "))
	for begin, most := range map[string]int{"": 6, "int x": 4, "int x ;": 4, "thread {": 4, "thread { }": 4, "thread { x =": 4, "thread { if (": 3, "thread { if ( x ) { }": 3, "thread { x = cas ( x": 3, "thread { x = - ( x )": 3} {
		r := newRecognizer()
		first, _ := lex.Scan(begin)
		for _, token := range first {
			r.step(token)
		}
		var grow func(text string, left int)
		grow = func(text string, left int) {
			if r.whole() {
				fine(t, text)
			} else {
				refused(t, text, syntaxAt(len(text)))
			}
			for _, token := range tokens {
				longer := text + " " + token.Text
				if !r.step(token) {
					refused(t, longer, syntaxAt(len(text)+1))
					continue
				}
				if left > 0 {
					grow(longer, left-1)
				}
				r.back()
			}
		}
		grow(begin, most)
	}
}

// I1, I3: programs thought of ahead of their texts, written in several ways: the same nodes, their places where they were written, one form.
func TestGenerated(t *testing.T) {
	d := dice(9)
	kinds := map[int]int{}
	for range 1500 {
		m := maker{&d, 40}
		program := m.program()
		var once string
		for _, w := range []*writer{{dice: &d, parens: everywhere}, {dice: &d, parens: sometimes}, {dice: &d, parens: sometimes, gaps: 1}} {
			w.write(program)
			text := w.text.String()
			if got := faultOf(text); got != (api.Fault{}) {
				t.Fatalf("%q: the second writing tells %v", short(text), got)
			}
			read(t, text, w.nodes...)
			got, _ := syntax.Print(text)
			if once == "" {
				once = got
			}
			if got != once {
				t.Errorf("%q is printed %q, elsewhere %q", short(text), got, once)
			}
			wellPrinted(t, text)
			for _, n := range w.nodes {
				kinds[n.Kind]++
			}
		}
	}
	for kind := api.NProgram; kind <= api.NBinary; kind++ {
		if kinds[kind] < 500 {
			t.Errorf("only %d nodes of kind %d", kinds[kind], kind)
		}
	}
}

// I2: generated programs in which some tokens were changed, some of them deep, against the second writing.
func TestGeneratedFaults(t *testing.T) {
	d := dice(10)
	count := map[api.Errno]int{}
	for range 6000 {
		m := maker{&d, 30}
		w := writer{dice: &d, parens: sometimes}
		w.write(m.program())
		list := texts(w.text.String())
		for range d.below(3) {
			at := d.below(len(list) + 1)
			token := tokenTexts()[d.below(len(tokenTexts()))]
			many := 1
			if d.below(2) == 0 {
				token, many = []string{"(", "-", "!", "- (", "if ( 1 ) {", "fence ;", "1 +"}[d.below(7)], d.below(40)
			}
			list = slices.Insert(list, at, slices.Repeat([]string{token}, many)...)
			if at := d.below(len(list) + 1); d.below(4) == 0 && at < len(list) {
				list = slices.Delete(list, at, at+1)
			}
		}
		count[asTheOracle(t, strings.Join(list, " ")).Code]++
	}
	if count[api.OK] < 500 || count[api.ErrSyntax] < 500 || count[api.ErrDeep] < 100 {
		t.Errorf("%v: too few of one kind to tell anything", count)
	}
}

// P1: any bytes, any tokens.
func TestAnyText(t *testing.T) {
	d := dice(11)
	for range 3000 {
		raw := make([]byte, d.below(40))
		for i := range raw {
			raw[i] = byte(d.below(256))
		}
		asTheOracle(t, string(raw))
		var list []string
		for range d.below(12) {
			list = append(list, tokenTexts()[d.below(len(tokenTexts()))])
		}
		asTheOracle(t, strings.Join(list, " "))
		asTheOracle(t, "thread { x = "+strings.Join(list, " "))
	}
	for _, token := range tokenTexts() {
		for _, begin := range []string{"", "int ", "thread{", "thread{x=", "thread{if(1)"} {
			asTheOracle(t, begin+several(600, token+" "))
		}
	}
}

// P3: what comes out shares no memory with the text, nor with another answer; no two lists of it share any.
func TestNothingIsShared(t *testing.T) {
	text := strings.Clone("int abc=1;lock m;thread{if(abc<2){abc=cas(abc,1,2);fence;}else{lock(m);}}thread{print(-abc);}")
	first, _ := syntax.Parse(text)
	second, _ := syntax.Parse(text)
	if len(first) == 0 || !reflect.DeepEqual(first, second) {
		t.Fatal(first, second)
	}
	from := uintptr(unsafe.Pointer(unsafe.StringData(text)))
	for _, n := range first {
		at := uintptr(unsafe.Pointer(unsafe.StringData(n.Text)))
		if n.Text != "" && at >= from && at < from+uintptr(len(text)) {
			t.Errorf("%v has a piece of the text", n)
		}
	}
	want, _ := syntax.Parse(text)
	for i := range first {
		kids := first[i].Kids[:cap(first[i].Kids)]
		for k := range kids {
			kids[k] = -1
		}
		for j := range first {
			if j > i && slices.Contains(first[j].Kids, -1) {
				t.Errorf("the kids of %d and of %d share memory", i, j)
			}
		}
	}
	if !reflect.DeepEqual(second, want) {
		t.Error(second)
	}
}
