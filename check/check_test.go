package check_test

import (
	"slices"
	"strconv"
	"strings"
	"testing"

	"sluice/api"
	"sluice/check"
	"sluice/syntax"
)

func twiceAt(at int) api.Fault { return api.Fault{Code: api.ErrTwice, At: at} }
func sizeAt(at int) api.Fault  { return api.Fault{Code: api.ErrSize, At: at} }
func nameAt(at int) api.Fault  { return api.Fault{Code: api.ErrName, At: at} }
func typeAt(at int) api.Fault  { return api.Fault{Code: api.ErrType, At: at} }

// answers holds what is told of a text that has no fault.
func answers(t *testing.T, text string, want ...int) {
	t.Helper()
	if got, f := check.Check(text); f != (api.Fault{}) || !slices.Equal(got, want) {
		t.Errorf("%q: %v %v, want %v", text, got, f, want)
	}
}

// refused holds the fault of a text, beside which nothing is told.
func refused(t *testing.T, text string, want api.Fault) {
	t.Helper()
	if got, f := check.Check(text); f != want || len(got) != 0 {
		t.Errorf("%q: %v %v, want %v", text, got, f, want)
	}
}

// fine holds that a text has no fault.
func fine(t *testing.T, text string) {
	t.Helper()
	if got, f := check.Check(text); f != (api.Fault{}) || len(got) == 0 {
		t.Errorf("%q: %v %v", text, got, f)
	}
}

// marked holds the fault of a text at the byte that | stands ahead of.
func marked(t *testing.T, text string, code api.Errno) {
	t.Helper()
	ahead, behind, ok := strings.Cut(text, "|")
	if !ok {
		t.Fatalf("%q has no mark", text)
	}
	refused(t, ahead+behind, api.Fault{Code: code, At: len(ahead)})
}

// asTheOracle holds all that is told of a text against the second writing.
func asTheOracle(t *testing.T, text string) api.Errno {
	t.Helper()
	want, fault := checked(text)
	if fault.Code != api.OK {
		refused(t, text, fault)
	} else {
		answers(t, text, want...)
	}
	return fault.Code
}

// numbered are texts of a name each, one behind the other.
func numbered(begin, name, end string, many int) string {
	var text strings.Builder
	for i := range many {
		text.WriteString(begin + name + strconv.Itoa(i) + end)
	}
	return text.String()
}

// J2: the node of which a name is, of each kind of node that has one; -1 of all else.
func TestOwners(t *testing.T) {
	answers(t, "thread{}", -1, -1, -1)
	answers(t, "int x;thread{}", -1, -1, -1, -1)
	answers(t, "int x;thread{print(x);}", -1, 0, -1, -1, -1, -1)
	answers(t, "int x;thread{x=1;}", -1, -1, 0, -1, -1, -1)
	answers(t, "lock m;thread{lock(m);unlock(m);}", -1, 0, 0, -1, -1, -1)
	answers(t, "int x;int y;thread{y=cas(x,1,2);}", -1, -1, 0, -1, -1, 1, -1, -1, -1)
	answers(t, "int x;thread{x=cas(x,x,x);}", -1, 0, 0, 0, 0, -1, -1, -1)
	answers(t, "int x;thread{int a=1;a=cas(x,a,x);}", -1, -1, -1, 0, 2, 0, 2, -1, -1, -1)
	answers(t, "thread{int a=1;a=a;print(-a);}", -1, -1, 1, 1, 1, -1, -1, -1, -1, -1)
	answers(t, "int x;thread{if(x){x=1;}else{x=2;}}", -1, 0, -1, 0, -1, -1, 0, -1, -1, -1, -1, -1)
	answers(t, "int x;thread{while(!x){fence;}}", -1, 0, -1, -1, -1, -1, -1, -1, -1)
	answers(t, "int x;lock m;int y;thread{y=1+x*2;}thread{lock(m);}", -1, -1, -1, -1, 0, -1, -1, -1, 2, -1, -1, 1, -1, -1, -1)
}

// J1, J2: the nearest one first: locals ahead of globals and locks, inner ones ahead of outer ones, each behind its NLocal.
func TestNearest(t *testing.T) {
	answers(t, "int x;thread{int x=x;x=x;}", -1, 0, -1, 2, 2, -1, -1, -1)
	answers(t, "int x;thread{x=1;int x=2;x=3;}", -1, -1, 0, -1, -1, -1, 4, -1, -1, -1)
	answers(t, "lock m;thread{lock(m);int m=1;m=2;}", -1, 0, -1, -1, -1, 3, -1, -1, -1)
	answers(t, "thread{int a=1;if(a){int a=a;a=a;}a=a;}", -1, -1, 1, 1, -1, 4, 4, -1, -1, 1, 1, -1, -1, -1)
	answers(t, "thread{int a=1;while(a){print(a);int a=2;print(a);}print(a);}", -1, -1, 1, 1, -1, -1, -1, 6, -1, -1, -1, 1, -1, -1, -1, -1)
	answers(t, "int a;thread{if(1){int a=1;}else{a=2;}a=3;}", -1, -1, -1, -1, -1, -1, 0, -1, -1, -1, 0, -1, -1, -1)
	answers(t, "int a;thread{int a=1;}thread{a=2;}", -1, -1, -1, -1, -1, -1, 0, -1, -1, -1)
	answers(t, "int x;thread{int a=1;while(1){a=x;while(1){a=x;}}}", -1, -1, -1, -1, 0, 2, -1, 0, 2, -1, -1, -1, -1, -1, -1, -1)
	answers(t, "int x;thread{if(1){int x=1;if(1){int x=2;x=3;}x=4;}x=5;}",
		-1, -1, -1, -1, -1, -1, -1, -1, 6, -1, -1, -1, 3, -1, -1, -1, 0, -1, -1, -1)
}

// J1: two of one name.
func TestTwice(t *testing.T) {
	for _, text := range []string{
		"int x;|int x;thread{}", "int x;|lock x;thread{}", "lock x;|int x;thread{}", "lock x;|lock x;thread{}",
		"int x;int y;lock m; |int x=7;thread{}", "int x;int y;|int y;int x;thread{}",
		"thread{int a=1;|int a=2;}", "thread{int a=1;int b=1;fence;|int a=a;}",
		"thread{int a=1;if(a){}|int a=2;}", "thread{int a=1;while(a){int a=2;}|int a=2;}",
		"thread{if(1){int a=1;|int a=2;}}", "thread{if(1){}else{int a=1;|int a=2;}}", "thread{while(1){int a=1;|int a=2;}}",
		"int a;thread{int a=1;|int a=1;}", "thread{int a=1;}thread{int a=1;|int a=2;}",
	} {
		marked(t, text, api.ErrTwice)
	}
	for _, text := range []string{
		"int x;int y;lock m;lock n;thread{}", "int x;thread{int x=1;}", "lock m;thread{int m=1;}",
		"thread{int a=1;}thread{int a=1;}", "thread{int a=1;if(1){int a=2;}}", "thread{if(1){int a=2;}int a=1;}",
		"thread{if(1){int a=1;}else{int a=2;}}", "thread{while(1){int a=1;}while(1){int a=1;}}",
		"thread{int a=1;while(1){int a=1;while(1){int a=1;}}}",
		"int x;thread{x=1;x=2;}", "lock m;thread{lock(m);lock(m);unlock(m);}",
	} {
		fine(t, text)
	}
}

// J1: as many as may be, and one more.
func TestSizes(t *testing.T) {
	globals, locks := numbered("int ", "g", ";", 16), numbered("lock ", "m", ";", 4)
	threads := strings.Repeat("thread{}", 4)
	fine(t, globals+locks+threads)
	fine(t, locks+globals+threads)
	fine(t, "thread{"+numbered("int ", "a", "=0;", 100)+"}")
	marked(t, globals+locks+"|int y;"+threads, api.ErrSize)
	marked(t, globals+"|int y;"+locks+threads, api.ErrSize)
	marked(t, locks+globals+"|lock n;"+threads, api.ErrSize)
	marked(t, locks+"|lock n;"+globals+threads, api.ErrSize)
	marked(t, threads+"|thread{}", api.ErrSize)
	marked(t, threads+"|thread{}"+threads, api.ErrSize)
	marked(t, globals+locks+threads+" //\n|thread{int a=1;print(a);}", api.ErrSize)
	marked(t, globals+"|int y;int z;", api.ErrSize)
	marked(t, globals+"|int y;"+locks+"lock n;", api.ErrSize)
}

// J1: names that are not there, of each kind of node that has one.
func TestNotThere(t *testing.T) {
	for _, text := range []string{
		"thread{print(|x);}", "thread{|x=1;}", "int y;thread{|x=cas(y,1,2);}", "int y;thread{y=cas(|x,1,2);}",
		"int y;thread{y=cas(y,|x,2);}", "int y;thread{y=cas(y,1,|x);}", "thread{|lock(x);}", "thread{|unlock(x);}",
		"thread{int a=|x;}", "thread{int a=|a;}", "thread{int a=1+-!|a;}", "thread{if(|x){}}", "thread{while(|x){}}",
		"thread{print(1+2*|x);}", "int x;thread{print(|xx);}", "int xx;thread{print(|x);}",
		"thread{|a=1;int a=2;}", "thread{if(1){int a=1;}|a=2;}", "thread{if(1){int a=1;}else{|a=2;}}",
		"thread{while(|a){int a=1;}}", "thread{while(1){int a=1;}print(|a);}", "thread{if(|a){int a=1;}}",
		"thread{int a=1;}thread{|a=1;}", "thread{|a=1;}thread{int a=1;}", "thread{if(1){if(1){int a=1;}|a=2;}}",
		"lock m;thread{lock(m);|lock(n);}",
	} {
		marked(t, text, api.ErrName)
	}
}

// J1: names of something else.
func TestOfSomethingElse(t *testing.T) {
	for _, text := range []string{
		"lock m;thread{print(|m);}", "lock m;thread{|m=1;}", "lock m;int x;thread{|m=cas(x,1,2);}",
		"lock m;int x;thread{x=cas(|m,1,2);}", "lock m;int x;thread{x=cas(x,|m,2);}", "lock m;int x;thread{x=cas(x,1,|m);}",
		"lock m;thread{int m=|m;}", "lock m;thread{if(|m){}}", "lock m;thread{while(1){|m=2;}}",
		"int x;thread{|lock(x);}", "int x;thread{|unlock(x);}", "thread{int a=1;|lock(a);}", "thread{int a=1;|unlock(a);}",
		"lock m;thread{int m=1;|lock(m);}", "lock m;thread{int m=1;if(1){|unlock(m);}}",
		"lock m;thread{if(1){int m=1;m=2;}lock(m);|m=3;}",
		"thread{int a=1;a=cas(|a,0,1);}", "int a;thread{int a=1;a=cas(|a,0,1);}", "int a;thread{int a=1;if(1){a=cas(|a,0,1);}}",
		"int x;thread{int a=1;x=cas(|a,a,a);}",
	} {
		marked(t, text, api.ErrType)
	}
	fine(t, "int a;thread{a=cas(a,0,1);int a=1;}")
	fine(t, "int a;thread{if(1){int a=1;}a=cas(a,0,1);}")
	fine(t, "int x;thread{int a=1;a=cas(x,a,a);}")
}

// J1: no thread, at last.
func TestNoThread(t *testing.T) {
	for _, text := range []string{"", " \n", "// thread{}", "int x;", " lock m;", "int x=-3;lock m;\n" + numbered("int ", "g", ";", 15)} {
		refused(t, text, sizeAt(0))
	}
	refused(t, "int x;int x;", twiceAt(6))
	refused(t, " "+numbered("lock ", "m", ";", 5), sizeAt(1+4*8))
	fine(t, "thread{}")
}

// J1: of several faults the one of the first node is told, kids ahead of what they are kids of.
func TestFirst(t *testing.T) {
	marked(t, "int x;|int x;thread{y=1;}", api.ErrTwice)
	marked(t, "lock m;thread{|m=1;int a=1;int a=1;}", api.ErrType)
	marked(t, "thread{int a=1;|int a=1;b=1;}", api.ErrTwice)
	marked(t, "thread{int a=1;int a=|b;}", api.ErrName)
	marked(t, "thread{x=|y;}", api.ErrName)
	marked(t, "lock m;thread{x=|m;}", api.ErrType)
	marked(t, "lock m;thread{m=|x;}", api.ErrName)
	marked(t, "thread{print(|x+y);}", api.ErrName)
	marked(t, "thread{if(1){|x=1;}else{y=1;}z=1;}", api.ErrName)
	marked(t, "thread{while(|x){y=1;}}", api.ErrName)
	marked(t, "thread{|x=1;}thread{y=1;}", api.ErrName)
	marked(t, "lock m;thread{m=cas(|x,y,z);}", api.ErrName)
	marked(t, "lock m;int x;thread{m=cas(x,|y,m);}", api.ErrName)
	marked(t, "lock m;int x;thread{y=cas(x,1,|m);}", api.ErrType)
	marked(t, "lock m;thread{int a=1;m=cas(|a,m,y);}", api.ErrType)
	marked(t, "thread{int a=1;b=cas(|a,b,c);}", api.ErrType)
	marked(t, "lock m;int x;thread{|m=cas(x,1,2);y=1;}", api.ErrType)
}

// J1: what is asked of one node: ErrTwice ahead of ErrSize; and a thread is asked behind all that it has.
func TestFirstOfOneNode(t *testing.T) {
	globals, locks := numbered("int ", "g", ";", 16), numbered("lock ", "m", ";", 4)
	for _, name := range []string{"g0", "g15", "m0", "m3"} {
		marked(t, globals+locks+"|int "+name+";thread{}", api.ErrTwice)
		marked(t, globals+locks+"|lock "+name+";thread{}", api.ErrTwice)
	}
	threads := strings.Repeat("thread{}", 4)
	marked(t, threads+"thread{|x=1;}", api.ErrName)
	marked(t, "lock m;"+threads+"thread{|m=1;}", api.ErrType)
	marked(t, threads+"thread{int a=1;|int a=1;}", api.ErrTwice)
	marked(t, threads+"|thread{}thread{x=1;}", api.ErrSize)
	marked(t, globals+"|int y;"+threads+"thread{x=1;}", api.ErrSize)
}

// J1: Parse's fault ahead of all.
func TestParseFirst(t *testing.T) {
	for _, text := range []string{
		"int x;int x;thread{", "thread{x=1;}int y;", "int x", "int x;\x00", "int x;int x;&", "thread{x=cas(1,2,3);}",
		"int x;int x;thread{x=" + strings.Repeat("(", 20), "int x;int x;thread{" + strings.Repeat("fence;", 600) + "}",
		strings.Repeat("int x;", 600), strings.Repeat(" ", 4001), "int abcdefghijklm;", "int x;lock x;thread{x=01;}",
	} {
		_, want := syntax.Parse(text)
		if want.Code == api.OK {
			t.Errorf("%q has no fault of Parse's", text)
		}
		refused(t, text, want)
	}
	refused(t, "int x;int x;", twiceAt(6))
	refused(t, "int x;int x;thread{", api.Fault{Code: api.ErrSyntax, At: 19})
}

// J1, J2: as much as can be read.
func TestGreat(t *testing.T) {
	many := "int x;thread{" + strings.Repeat("fence;", 596) + "}"
	asTheOracle(t, many)
	fine(t, many)
	long := "int x;thread{x=x" + strings.Repeat("+x", 297) + ";}"
	asTheOracle(t, long)
	fine(t, long)
	deep := "int x;thread{" + strings.Repeat("if(x){int x=x;", 18) + "x=-x;" + strings.Repeat("}", 18) + "x=x;}"
	asTheOracle(t, deep)
	fine(t, deep)
	asTheOracle(t, "int x;thread{"+strings.Repeat("x=cas(x,x,x);", 100)+"}")
	refused(t, "int x;thread{x=x"+strings.Repeat("+x", 296)+"+y;}", nameAt(13+3+2*296+1))
}

// J1, J2: each way to have a name, at each place, with each way to use it, by hand: what is there, and whether it may be.
func TestEachUse(t *testing.T) {
	type use struct {
		text       string // of the name a, with | ahead of the node that has it
		lock, mine bool   // it asks for a lock; a local will do
	}
	uses := []use{
		{"print(|a);", false, true}, {"|a=1;", false, true}, {"|a=cas(z,1,2);", false, true}, {"z=cas(|a,1,2);", false, false},
		{"z=cas(z,|a,2);", false, true}, {"z=cas(z,1,-|a);", false, true}, {"|lock(a);", true, false}, {"|unlock(a);", true, false},
		{"int b=|a;", false, true}, {"if(|a){}", false, true}, {"while(1<|a){}", false, true},
	}
	const none, global, lock, local = 0, 1, 2, 3
	outer := []string{none: "", global: "int a;", lock: "lock a;"}
	for made, ahead := range outer {
		for _, place := range []struct {
			form string // U for the use
			near bool   // a local is there
		}{
			{"thread{U}", false}, {"thread{int a=1;U}", true}, {"thread{U int a=1;}", false}, {"thread{if(1){int a=1;}U}", false},
			{"thread{int a=1;if(1){U}}", true}, {"thread{if(1){int a=1;U}}", true}, {"thread{if(1){int a=1;}else{U}}", false},
			{"thread{int a=1;while(1){if(1){}else{U}}}", true}, {"thread{int a=1;}thread{U}", false}, {"thread{if(1){U}int a=1;}", false},
			{"thread{while(1){U}while(1){int a=1;}}", false},
		} {
			owner := made
			if place.near {
				owner = local
			}
			for _, u := range uses {
				text := "int z;" + ahead + strings.Replace(place.form, "U", u.text, 1)
				switch {
				case owner == none:
					marked(t, text, api.ErrName)
				case (owner == lock) != u.lock, owner == local && !u.mine:
					marked(t, text, api.ErrType)
				default:
					fine(t, strings.Replace(text, "|", "", 1))
				}
				asTheOracle(t, strings.Replace(text, "|", "", 1))
			}
		}
	}
}

// J1, J2: generated programs against the second writing.
func TestGenerated(t *testing.T) {
	d := dice(33)
	count := map[api.Errno]int{}
	for _, names := range [][]string{{"x"}, {"x", "y"}, {"a", "b", "c", "d"}, {"x", "x1", "x2", "y", "z", "m", "n", "_"}} {
		for range 6000 {
			m := maker{dice: &d, names: names, left: 1 + d.below(12)}
			text := m.program()
			if _, f := syntax.Parse(text); f.Code != api.OK {
				t.Fatalf("%q: %v", text, f)
			}
			count[asTheOracle(t, text)]++
		}
	}
	for _, code := range []api.Errno{api.OK, api.ErrTwice, api.ErrName, api.ErrType} {
		if count[code] < 500 {
			t.Errorf("%v: too few of %d to tell anything", count, code)
		}
	}
}

// J1, J2: generated programs that may be for the most part: what they name is made ahead, some of it anew.
func TestGeneratedFine(t *testing.T) {
	d := dice(34)
	fineOnes, named := 0, 0
	for range 6000 {
		m := maker{dice: &d, names: []string{"a", "b", "c"}, left: 6}
		m.block(3)
		text := "int a;int b;int c;thread{int a=a;" + m.text.String()[1:] + "thread" + m.text.String()
		if asTheOracle(t, text) != api.OK {
			continue
		}
		fineOnes++
		owners, _ := check.Check(text)
		for _, owner := range owners {
			if owner > 2 {
				named++
			}
		}
	}
	if fineOnes < 1000 || named < 1000 {
		t.Errorf("%d programs, %d names of locals: too few to tell anything", fineOnes, named)
	}
}

// J1: generated programs with about as many globals, locks and threads as may be.
func TestGeneratedSizes(t *testing.T) {
	d := dice(35)
	count := map[api.Errno]int{}
	for range 3000 {
		var list []string
		for i := range 13 + d.below(5) {
			list = append(list, "int g"+strconv.Itoa(i)+";")
		}
		for i := range 2 + d.below(4) {
			list = append(list, "lock m"+strconv.Itoa(i)+";")
		}
		if d.below(4) == 0 {
			list = append(list, list[d.below(len(list))])
		}
		for i := range list {
			j := i + d.below(len(list)-i)
			list[i], list[j] = list[j], list[i]
		}
		for range d.below(7) {
			list = append(list, []string{"thread{}", "thread{int a=1;a=g0;}", "thread{lock(m1);}", "thread{g15=1;}"}[d.below(4)])
		}
		count[asTheOracle(t, strings.Join(list, " "))]++
	}
	if count[api.OK] < 200 || count[api.ErrSize] < 200 || count[api.ErrTwice] < 200 || count[api.ErrName] < 200 {
		t.Errorf("%v: too few of one kind to tell anything", count)
	}
}

// P1: any bytes, any tokens.
func TestAnyText(t *testing.T) {
	d := dice(36)
	tokens := strings.Fields("int lock unlock thread if else while print fence cas + - * < ! ( ) { } ; , = x y 7 & é")
	for range 3000 {
		raw := make([]byte, d.below(40))
		for i := range raw {
			raw[i] = byte(d.below(256))
		}
		asTheOracle(t, string(raw))
		var list []string
		for range d.below(12) {
			list = append(list, tokens[d.below(len(tokens))])
		}
		asTheOracle(t, strings.Join(list, " "))
		asTheOracle(t, "int x;thread{"+strings.Join(list, " ")+"}")
	}
}

// P3: each answer is new memory, and the same one each time.
func TestNothingIsShared(t *testing.T) {
	text := "int x;lock m;thread{lock(m);int x=x;x=x+1;unlock(m);}"
	first, _ := check.Check(text)
	second, _ := check.Check(text)
	if len(first) == 0 || !slices.Equal(first, second) {
		t.Fatal(first, second)
	}
	want := slices.Clone(second)
	first = first[:cap(first)]
	for i := range first {
		first[i] = 77
	}
	if third, _ := check.Check(text); !slices.Equal(second, want) || !slices.Equal(third, want) {
		t.Error(second, third, want)
	}
}

// J1, J2: the document's examples of the whole.
func TestExamples(t *testing.T) {
	fine(t, "int x;lock m;thread{lock(m);x=x+1;unlock(m);}thread{lock(m);x=x*2;unlock(m);}")
	fine(t, "int x;thread{x=1+2*3;}")
	fine(t, "thread{}")
	refused(t, "int x;", sizeAt(0))
	refused(t, "thread{int a=1;a=cas(a,0,1);}", typeAt(21))
	refused(t, "thread{y=1;}", nameAt(7))
}

// Read tells the nodes of Parse beside what Check tells, and nothing beside a fault.
func TestRead(t *testing.T) {
	for _, text := range []string{"thread{}", "int x;lock m;thread{int a=x;lock(m);a=cas(x,a,1);}", "int x", "thread{x=1;}", "int x;", "int x;int x;thread{}"} {
		p, f := check.Read(text)
		owners, fault := check.Check(text)
		nodes, _ := syntax.Parse(text)
		if fault.Code != api.OK {
			nodes = nil
		}
		if f != fault || !slices.Equal(p.Owners, owners) || !slices.EqualFunc(p.Nodes, nodes, sameNode) {
			t.Errorf("%q: %v %v", text, p, f)
		}
	}
}

func sameNode(a, b api.Node) bool {
	return a.Kind == b.Kind && a.Num == b.Num && a.At == b.At && a.Text == b.Text && slices.Equal(a.Kids, b.Kids)
}
