package source_test

import (
	"math"
	"slices"
	"strconv"
	"strings"
	"testing"

	"sluice/api"
	"sluice/source"
)

// run is what comes of a text that may be.
func run(t *testing.T, text string, script ...int) api.Trace {
	t.Helper()
	got, f := source.Run(text, script)
	if f != (api.Fault{}) {
		t.Fatalf("%q: %v", text, f)
	}
	return got
}

// want holds traces against each other; an empty list may be nil or not.
func want(t *testing.T, what any, got, want api.Trace) {
	t.Helper()
	if got.Status != want.Status || got.Steps != want.Steps || !slices.Equal(got.Prints, want.Prints) || !slices.Equal(got.Words, want.Words) {
		t.Errorf("%v: %v, want %v", what, got, want)
	}
}

// prints holds that a single thread, with globals x and y, prints these numbers and is done.
func prints(t *testing.T, statements string, numbers ...int) {
	t.Helper()
	var list []int
	for _, n := range numbers {
		list = append(list, 0, n)
	}
	got := run(t, "int x=3;int y=-4;thread{"+statements+"}")
	if got.Status != api.Done || !slices.Equal(got.Prints, list) {
		t.Errorf("%q: %v, want %v", statements, got, numbers)
	}
}

// told are the outcomes of a text, as texts; each stands once, in order.
func told(t *testing.T, text string) []string {
	t.Helper()
	list, f := source.Outcomes(text)
	if f != (api.Fault{}) {
		t.Fatalf("%q: %v", text, f)
	}
	for i := 1; i < len(list); i++ {
		if !ahead(list[i-1], list[i]) {
			t.Errorf("%q: %v stands ahead of %v", text, list[i-1], list[i])
		}
	}
	var texts []string
	for _, o := range list {
		texts = append(texts, outcome(o.Status, o.Words, o.Prints))
	}
	return texts
}

// ahead tells whether an outcome comes ahead of another one: by its status, then by its words, then by its prints.
func ahead(a, b api.Outcome) bool {
	if a.Status != b.Status {
		return a.Status < b.Status
	}
	for _, two := range [][2][]int{{a.Words, b.Words}, {a.Prints, b.Prints}} {
		for i := range min(len(two[0]), len(two[1])) {
			if two[0][i] != two[1][i] {
				return two[0][i] < two[1][i]
			}
		}
		if len(two[0]) != len(two[1]) {
			return len(two[0]) < len(two[1])
		}
	}
	return false
}

// comes holds the outcomes of a text, in order: a status, words and prints each.
func comes(t *testing.T, text string, want ...string) {
	t.Helper()
	if got := told(t, text); !slices.Equal(got, want) {
		t.Errorf("%q: %q, want %q", text, got, want)
	}
}

// full holds that more can come of a text than is looked at.
func full(t *testing.T, text string) {
	t.Helper()
	if list, f := source.Outcomes(text); f != (api.Fault{Code: api.ErrFull}) || len(list) != 0 {
		t.Errorf("%q: %v %v, want ErrFull", text, list, f)
	}
}

// The chapter's promises by the document's examples.
func TestExamples(t *testing.T) {
	want(t, "x=x+2", run(t, "int x;thread{x=x+2;print(x);}"), api.Trace{Prints: []int{0, 2}, Words: []int{2}, Steps: 4})
	want(t, "nothing", run(t, "thread{}"), api.Trace{})
	comes(t, "thread{}", "0 [] []")
	comes(t, "int x;lock m;thread{lock(m);x=x+1;unlock(m);}thread{lock(m);x=x*2;unlock(m);}", "0 [1] []", "0 [2] []")
	comes(t, "int x;thread{x=1+2*3;}", "0 [7] []")
	if _, f := source.Run("int x;", nil); f != (api.Fault{Code: api.ErrSize}) {
		t.Error(f)
	}
}

// K1: globals hold their numbers at first, in the order in which they stand, whatever stands between.
func TestFirst(t *testing.T) {
	want(t, "words", run(t, "int b=7;lock m;int a=-8;int c;lock n;int d=999999999;thread{}"), api.Trace{Words: []int{7, -8, 0, 999999999}})
	want(t, "read", run(t, "int b=7;lock m;int a=-8;thread{print(a);print(b);}"), api.Trace{Prints: []int{0, -8, 0, 7}, Words: []int{7, -8}, Steps: 4})
	want(t, "threads by their numbers", run(t, "thread{print(1);}thread{}thread{print(2);}thread{print(3);}"),
		api.Trace{Prints: []int{0, 1, 2, 2, 3, 3}, Steps: 3})
	sixteen := ""
	for i := range 16 {
		sixteen += "int g" + strconv.Itoa(i) + "=" + strconv.Itoa(i*i) + ";"
	}
	got := run(t, sixteen+"lock a;lock b;lock c;lock d;thread{g15=g14;g0=1;lock(d);lock(a);}")
	if len(got.Words) != 16 || got.Words[15] != 196 || got.Words[0] != 1 || got.Words[13] != 169 || got.Steps != 5 {
		t.Error(got)
	}
}

// K1: what expressions come to.
func TestExpressions(t *testing.T) {
	square := 999999999
	square *= square
	for _, x := range []struct {
		text string
		n    int
	}{
		{"5", 5}, {"x", 3}, {"y", -4}, {"x+y", -1}, {"x-y", 7}, {"x*y", -12}, {"-x", -3}, {"-y", 4}, {"--x", 3}, {"x-y-1", 6}, {"1-x*2", -5},
		{"!x", 0}, {"!0", 1}, {"!!x", 1}, {"!!0", 0}, {"!y", 0}, {"-!0", -1}, {"!-1", 0},
		{"1<2", 1}, {"2<2", 0}, {"3<2", 0}, {"1<=2", 1}, {"2<=2", 1}, {"3<=2", 0}, {"1>2", 0}, {"2>2", 0}, {"3>2", 1},
		{"1>=2", 0}, {"2>=2", 1}, {"3>=2", 1}, {"1==2", 0}, {"2==2", 1}, {"3==2", 0}, {"1!=2", 1}, {"2!=2", 0}, {"3!=2", 1}, {"y<x", 1}, {"y==-4", 1},
		{"0&&0", 0}, {"0&&7", 0}, {"7&&0", 0}, {"7&&8", 1}, {"-1&&-1", 1}, {"0||0", 0}, {"0||7", 1}, {"7||0", 1}, {"7||8", 1}, {"-1||0", 1}, {"0||-1", 1},
		{"x&&y", 1}, {"x||y", 1}, {"0&&x||y", 1}, {"1||x&&0", 1}, {"(1||x)&&0", 0}, {"(5&&6)+(0||9)", 2}, {"2+(1&&0)", 2}, {"(0||0)-1", -1},
		{"999999999*999999999", square}, {"999999999*999999999*10", square * 10}, {"999999999*999999999*99", square * 99}, {"-999999999*999999999*-20", square * 20},
	} {
		prints(t, "print("+x.text+");", x.n)
		prints(t, "int a="+x.text+";print(a);", x.n)
		prints(t, "x="+x.text+";print(x);", x.n)
	}
	// 2^62 by doubling, for the greatest number, the least one, and what has no other side.
	double := "int a=1;int i=0;while(i<62){a=a*2;i=i+1;}int b=a-1+a;"
	prints(t, double+"print(b);print(b+1);print(-(b+1));print(b+1<0);print(b+1-1);print((b+1)*3);print(a*4);",
		math.MaxInt, math.MinInt, math.MinInt, 1, math.MaxInt, math.MinInt, 0)
}

// K1: from the left: what another thread changes is seen by what is read later on alone.
func TestFromTheLeft(t *testing.T) {
	other := "thread{x=5;y=6;}"
	for _, x := range []struct {
		text string
		n    int
	}{
		{"x*10+y", 16}, {"y*10+x", 25}, {"x-y", -5}, {"x*10+(0+y)", 16}, {"-x*10+y", -4}, {"(x==1)*10+y", 16}, {"(x&&1)*10+y", 16}, {"(0||x)*10+y", 16},
	} {
		got := run(t, "int x=1;int y=2;thread{print("+x.text+");}"+other, 0, 1, 1)
		want(t, x.text, got, api.Trace{Prints: []int{0, x.n}, Words: []int{5, 6}, Steps: 5})
	}
	got := run(t, "int x=1;int y=2;int z=1;thread{int a=7;a=cas(z,x,y);print(a);}"+other, 0, 1, 1)
	want(t, "cas", got, api.Trace{Prints: []int{0, 1}, Words: []int{5, 6, 6}, Steps: 6})
}

// K1: a side that is not needed is not evaluated, so that its marks do not come.
func TestDecided(t *testing.T) {
	for _, x := range []struct {
		text     string
		n, steps int
	}{
		{"x&&y", 0, 2}, {"x||y", 1, 3}, {"y&&x", 0, 3}, {"y||x", 1, 2}, {"x&&y&&y", 0, 2}, {"y||x||x", 1, 2}, {"x||x||y", 1, 4}, {"x&&(y||y)", 0, 2},
		{"x&&y||y", 1, 3}, {"y||x&&x", 1, 2}, {"!x||y", 1, 2}, {"x==0||y", 1, 2}, {"x+y&&y", 1, 4}, {"0&&y", 0, 1}, {"1||y", 1, 1}, {"(x&&y)+y", 9, 3},
	} {
		got := run(t, "int x;int y=9;thread{print("+x.text+");}")
		want(t, x.text, got, api.Trace{Prints: []int{0, x.n}, Words: []int{0, 9}, Steps: x.steps})
	}
}

// K1: variables are made, set, hidden by inner ones, and there no more behind their block.
func TestVariables(t *testing.T) {
	prints(t, "int a=1;print(a);a=a+1;print(a);", 1, 2)
	prints(t, "int x=x+1;print(x);x=x+1;print(x);", 4, 5)
	prints(t, "int a=1;if(1){int a=a+10;print(a);a=a+1;print(a);}print(a);", 11, 12, 1)
	prints(t, "int a=1;if(1){a=2;}print(a);", 2)
	prints(t, "if(1){int a=1;print(a);}int a=2;print(a);", 1, 2)
	prints(t, "if(1){int x=8;x=x+1;print(x);}print(x);", 9, 3)
	prints(t, "if(0){int x=8;}else{int x=9;print(x);}print(x);", 9, 3)
	prints(t, "int i=0;while(i<3){int a=5;print(a+i);a=a+100;i=i+1;}", 5, 6, 7)
	prints(t, "int i=0;while(i<2){print(x);int x=i;print(x);i=i+1;}print(x);", 3, 0, 3, 1, 3)
	prints(t, "int a=1;while(a<3){a=a+1;if(a==2){int a=50;print(a);}print(a);}", 50, 2, 3)
	prints(t, "int a=1;int b=2;int c=a;a=b;b=c;print(a);print(b);", 2, 1)
	text := "int x=1;thread{int a=1;a=a+x;print(a);}thread{int a=7;x=a;print(a);}"
	want(t, "each thread has its own", run(t, text, 1, 1, 0, 0), api.Trace{Prints: []int{1, 7, 0, 8}, Words: []int{7}, Steps: 4})
}

// K1: by whether the number is 0.
func TestBranches(t *testing.T) {
	for _, n := range []string{"1", "2", "-1", "x", "y", "x+y", "999999999"} {
		prints(t, "if("+n+"){print(1);}print(9);", 1, 9)
		prints(t, "if("+n+"){print(1);}else{print(2);}print(9);", 1, 9)
		prints(t, "int i="+n+";while(i){print(i*0);i=0;}print(9);", 0, 9)
	}
	for _, n := range []string{"0", "-0", "x-3", "!x", "x<y"} {
		prints(t, "if("+n+"){print(1);}print(9);", 9)
		prints(t, "if("+n+"){print(1);}else{print(2);}print(9);", 2, 9)
		prints(t, "while("+n+"){print(1);}print(9);", 9)
	}
	prints(t, "if(1){}else{print(1);}if(0){print(2);}else{}if(1){if(0){}else{print(3);}}", 3)
	prints(t, "if(1){if(0){print(1);}}else{print(2);}print(3);", 3)
	prints(t, "while(x){print(x);x=x-1;}while(y){y=y+1;}print(y);", 3, 2, 1, 0)
	prints(t, "int i=0;while(i<2){int j=0;while(j<2){print(i*10+j);j=j+1;}i=i+1;}", 0, 1, 10, 11)
}

// K1: cas of a global that holds what is asked for, and of one that does not; into a variable, a global, the same global.
func TestCas(t *testing.T) {
	prints(t, "int a=7;a=cas(x,3,5);print(a);print(x);", 1, 5)
	prints(t, "int a=7;a=cas(x,4,5);print(a);print(x);", 0, 3)
	prints(t, "int a=3;a=cas(x,a,a+1);print(a);print(x);print(y);", 1, 4, -4)
	prints(t, "y=cas(x,3,5);print(x);print(y);", 5, 1)
	prints(t, "y=cas(x,-4,5);print(x);print(y);", 3, 0)
	prints(t, "x=cas(x,3,5);print(x);", 1)
	prints(t, "x=cas(x,5,3);print(x);", 0)
	prints(t, "y=cas(y,x-7,x);print(y);", 1)
	prints(t, "y=cas(x,x,x);print(x);print(y);", 3, 1)
	prints(t, "if(1){int a=0;if(1){int b=0;b=cas(x,3,8);print(b);a=b+b;}print(a);}print(x);", 1, 2, 8)
	text := "int x;thread{x=cas(x,0,5);x=cas(x,4,9);}thread{x=4;print(x);}"
	// The global is asked and set at once; that the name is set comes behind it by itself.
	want(t, "between", run(t, text, 0, 1, 0, 0, 1), api.Trace{Prints: []int{1, 1}, Words: []int{0}, Steps: 7})
	want(t, "kept", run(t, text, 0, 0, 1, 1, 0), api.Trace{Prints: []int{1, 4}, Words: []int{1}, Steps: 7})
}

// K2: what is a mark, and so a step, and what is none.
func TestMarks(t *testing.T) {
	for _, x := range []struct {
		text  string
		steps int
	}{
		{"", 0}, {"int a=1;", 0}, {"int a=1;a=a+a*2;", 0}, {"if(1){}", 0}, {"while(0){}", 0}, {"int i=0;while(i<9){i=i+1;}", 0},
		{"int a=x;", 1}, {"x=1;", 1}, {"x=x;", 2}, {"x=x+x*y;", 4}, {"int a=0;a=x-y;", 2}, {"print(1);", 1}, {"print(x);", 2}, {"print(-x);", 2}, {"print(!x);", 2},
		{"int a=0;a=cas(x,1,2);", 1}, {"x=cas(x,1,2);", 2}, {"y=cas(x,1,2);", 2}, {"int a=0;a=cas(x,x,y);", 3}, {"y=cas(x,x,y);", 4},
		{"lock(m);", 1}, {"lock(m);unlock(m);", 2}, {"fence;", 1}, {"fence;fence;fence;", 3}, {"if(x){}", 1}, {"if(x){}else{fence;}", 1}, {"if(!x){}else{fence;}", 2},
		{"while(x){x=x-1;}", 10}, {"int x=1;x=x+1;x=x;", 0}, {"int x=x;", 1}, {"int m=1;m=m;", 0}, {"if(1){int x=1;print(x);}x=x;", 3},
	} {
		if got := run(t, "int x=3;int y;lock m;thread{"+x.text+"}"); got.Status != api.Done || got.Steps != x.steps {
			t.Errorf("%q: %v, want %d steps", x.text, got, x.steps)
		}
	}
}

// K2: one step is one mark: what another thread does comes between any two of them, and never within one.
func TestBetweenMarks(t *testing.T) {
	text := "int x;thread{x=x+1;print(x);}thread{x=x+1;print(x);}"
	want(t, "by itself", run(t, text), api.Trace{Prints: []int{0, 1, 1, 2}, Words: []int{2}, Steps: 8})
	want(t, "both read 0", run(t, text, 0, 1, 0, 1), api.Trace{Prints: []int{0, 1, 1, 1}, Words: []int{1}, Steps: 8})
	want(t, "set late", run(t, text, 0, 1, 1, 1, 1), api.Trace{Prints: []int{1, 1, 0, 1}, Words: []int{1}, Steps: 8})
	// What a print tells was read ahead of it.
	want(t, "printed late", run(t, "int x=1;thread{print(x);}thread{x=2;print(7);}", 0, 1, 1), api.Trace{Prints: []int{1, 7, 0, 1}, Words: []int{2}, Steps: 4})
}

// K2, B2: a number is taken only where at least two can be picked; modulo is from 0 on; without numbers the first is picked.
func TestScript(t *testing.T) {
	three := strings.Repeat("thread{print(7);print(7);}", 3)
	for _, x := range []struct{ script, threads []int }{
		{nil, []int{0, 0, 1, 1, 2, 2}},
		{[]int{2}, []int{2, 0, 0, 1, 1, 2}},
		{[]int{1, 1, 1, 1}, []int{1, 1, 2, 2, 0, 0}},
		{[]int{3, 4, 5, 6}, []int{0, 1, 2, 0, 1, 2}},
		{[]int{-1, -1, -1, -1, 9}, []int{2, 2, 1, 1, 0, 0}},
		{[]int{-2, -3, -4, -5}, []int{1, 0, 2, 1, 0, 2}},
		{[]int{math.MaxInt, math.MinInt, 0, 0}, []int{1, 1, 0, 0, 2, 2}},
	} {
		var list []int
		for _, who := range x.threads {
			list = append(list, who, 7)
		}
		want(t, x.script, run(t, three, x.script...), api.Trace{Prints: list, Steps: 6})
	}
	text := "lock m;thread{lock(m);print(1);print(2);unlock(m);print(3);}thread{lock(m);print(4);unlock(m);}"
	want(t, "one alone takes no number", run(t, text, 0, 1, 1), api.Trace{Prints: []int{0, 1, 0, 2, 1, 4, 0, 3}, Steps: 8})
	text = "lock m;thread{}thread{lock(m);print(1);unlock(m);}thread{lock(m);print(2);unlock(m);}thread{print(3);print(4);}"
	want(t, "among those that are able", run(t, text, 0, 1, 0, 1, 0), api.Trace{Prints: []int{3, 3, 1, 1, 3, 4, 2, 2}, Steps: 8})
}

// K2: a lock that is taken lets others stand ahead of it, its own thread too.
func TestLocks(t *testing.T) {
	part := "thread{lock(m);x=x+1;print(x);unlock(m);}"
	want(t, "one behind the other", run(t, "int x;lock m;"+part+part, 0, 1, 1, 1), api.Trace{Prints: []int{0, 1, 1, 2}, Words: []int{2}, Steps: 12})
	want(t, "the other one first", run(t, "int x;lock m;"+part+part, 1, 0, 0), api.Trace{Prints: []int{1, 1, 0, 2}, Words: []int{2}, Steps: 12})
	want(t, "of different locks", run(t, "lock m;lock n;thread{lock(m);unlock(m);}thread{lock(n);unlock(n);}", 0, 1, 0), api.Trace{Steps: 4})
	want(t, "kept to the end", run(t, "lock m;thread{lock(m);}"), api.Trace{Steps: 1})
	want(t, "its own", run(t, "int x=4;lock m;thread{lock(m);print(1);lock(m);print(2);}"), api.Trace{Status: api.Stuck, Prints: []int{0, 1}, Words: []int{4}, Steps: 2})
	want(t, "kept from another one", run(t, "lock m;thread{lock(m);}thread{print(1);lock(m);print(2);}"), api.Trace{Status: api.Stuck, Prints: []int{1, 1}, Steps: 2})
	crossed := "lock m;lock n;thread{lock(m);lock(n);unlock(n);unlock(m);}thread{lock(n);lock(m);unlock(m);unlock(n);}"
	want(t, "crossed", run(t, crossed, 0, 1), api.Trace{Status: api.Stuck, Steps: 2})
	want(t, "crossed, one ahead", run(t, crossed, 0, 0), api.Trace{Steps: 8})
}

// K2: a thread that frees what it has not taken lets the run fall, with that step counted.
func TestFalls(t *testing.T) {
	want(t, "free", run(t, "int x=4;lock m;thread{x=5;print(1);unlock(m);print(2);}"), api.Trace{Status: api.Fell, Prints: []int{0, 1}, Words: []int{5}, Steps: 3})
	want(t, "twice", run(t, "lock m;thread{lock(m);unlock(m);unlock(m);}"), api.Trace{Status: api.Fell, Steps: 3})
	want(t, "another lock", run(t, "lock m;lock n;thread{lock(m);unlock(n);}"), api.Trace{Status: api.Fell, Steps: 2})
	want(t, "another thread's", run(t, "lock m;thread{lock(m);print(1);}thread{unlock(m);}", 0, 1), api.Trace{Status: api.Fell, Steps: 2})
	want(t, "the last thread's", run(t, "lock m;thread{unlock(m);}thread{}thread{}thread{lock(m);print(1);}", 1, 1), api.Trace{Status: api.Fell, Prints: []int{3, 1}, Steps: 3})
}

// steps are statements that do so many marks, at least 2.
func steps(n int) string {
	return "int i=0;while(i<" + strconv.Itoa(n) + "){fence;i=i+1;}"
}

// K2, B3: MaxSteps marks may be done; ahead of one more the run is Out, but where there is none it ends as it would else.
func TestLastStep(t *testing.T) {
	for _, x := range []struct {
		name, last, other string
		end               api.Trace
	}{
		{"done", "", "", api.Trace{Steps: 4996}},
		{"done at the last", "fence;fence;fence;print(1);", "", api.Trace{Prints: []int{0, 1}, Steps: 5000}},
		{"out", "fence;fence;fence;print(1);print(2);", "", api.Trace{Status: api.Out, Prints: []int{0, 1}, Steps: 5000}},
		{"fell at the last", "fence;fence;fence;unlock(m);", "", api.Trace{Status: api.Fell, Steps: 5000}},
		{"out ahead of a fall", "fence;fence;fence;fence;unlock(m);", "", api.Trace{Status: api.Out, Steps: 5000}},
		{"stuck behind the last", "fence;fence;fence;lock(m);lock(m);", "", api.Trace{Status: api.Stuck, Steps: 5000}},
		{"out where another one is able", "fence;fence;fence;lock(m);lock(m);", "thread{fence;}", api.Trace{Status: api.Out, Steps: 5000}},
		{"out by what is too long", "fence;fence;fence;print(1);while(1){}", "", api.Trace{Status: api.Out, Prints: []int{0, 1}, Steps: 5000}},
	} {
		want(t, x.name, run(t, "lock m;thread{"+steps(4996)+x.last+"}"+x.other), x.end)
	}
	got := run(t, "int x;thread{while(1){x=x+1;}}")
	want(t, "forever", got, api.Trace{Status: api.Out, Words: []int{2500}, Steps: 5000})
	got = run(t, "int x;thread{while(!x){}}thread{while(!x){}}", 0, 1)
	want(t, "in vain", got, api.Trace{Status: api.Out, Words: []int{0}, Steps: 5000})
}

// busy are statements without a mark that begin so many nodes, with a variable i that they make.
func busy(n int) string {
	const first, round, last = 3, 7, 3 // int i=0; while; a condition and i=i+1;; the last condition
	rounds := (n - first - last) / round
	for (n-first-last)-rounds*round == 1 {
		rounds--
	}
	text := "int i=0;while(i<" + strconv.Itoa(rounds) + "){i=i+1;}"
	left := n - first - last - rounds*round
	if left%2 == 1 {
		text += "i=-1;" // three of them
		left -= 3
	}
	return text + strings.Repeat("i=1;", left/2)
}

// K2: a thread may begin 10000 nodes in a row without a mark, and no more.
func TestTooLong(t *testing.T) {
	out := api.Trace{Status: api.Out}
	want(t, "forever", run(t, "thread{while(1){}}"), out)
	for n := 9990; n <= 10010; n++ {
		expected := api.Trace{}
		if n > 10000 {
			expected.Status = api.Out
		}
		want(t, n, run(t, "thread{"+busy(n)+"}"), expected)
	}
	// So many nodes each of these begins behind the busy ones, up to its mark or its end.
	for _, x := range []struct {
		text   string
		begins int
	}{
		{"i=1;", 2}, {"i=-1;", 3}, {"i=!1;", 3}, {"i=1+2;", 4}, {"i=i*i-i;", 6}, {"i=((((1))));", 2}, {"int j=2;", 2},
		{"if(0){}", 2}, {"if(1){}", 2}, {"if(1){i=1;}", 4}, {"if(0){i=1;}", 2}, {"if(0){}else{i=1;}", 4}, {"if(1){}else{i=1;}", 2}, {"if(1){if(1){if(1){}}}", 6},
		{"while(0){}", 2}, {"while(0){i=1;}", 2}, {"i=1;while(i){i=0;}", 7}, {"i=2;while(i>0){i=i-1;}", 2 + 1 + 3*3 + 2*4},
		{"i=0&&1;", 3}, {"i=1&&1;", 4}, {"i=0||1;", 4}, {"i=1||1;", 3}, {"i=0&&1+2*3;", 3}, {"i=1||1+2*3;", 3}, {"i=(0&&1)+(1||0);", 6},
		{"print(1);", 2}, {"print(-i);", 3}, {"fence;", 1}, {"lock(m);", 1}, {"lock(m);unlock(m);", 1}, {"x=1;", 2}, {"x=1+1;", 4},
		{"i=x;", 2}, {"print(x);", 2}, {"print(1+x);", 4}, {"i=cas(x,1,2);", 3}, {"x=cas(x,1,2);", 3}, {"x=cas(x,1+1,-2);", 6}, {"x=cas(x,x,2);", 2},
		{"if(x){}", 2}, {"while(x){}", 2}, {"if(1){fence;}", 3}, {"x=0&&x;", 3},
	} {
		if got := run(t, "int x;lock m;thread{"+busy(10000-x.begins)+x.text+"}"); got.Status != api.Done {
			t.Errorf("%q: %v, want done", x.text, got)
		}
		want(t, x.text, run(t, "int x;lock m;thread{"+busy(10001-x.begins)+x.text+"}"), api.Trace{Status: api.Out, Words: []int{0}})
	}
}

// K2: it is counted from the last mark on, of each thread by itself; what was done till then is told.
func TestTooLongBehindMark(t *testing.T) {
	most, more := busy(10000), busy(10001)
	inner := func(text string) string { return "if(1){" + text + "}" }
	for _, x := range []struct {
		mark  string
		steps int
	}{
		{"fence;", 1}, {"x=8;", 1}, {"print(x);", 2}, {"lock(m);", 1}, {"lock(m);unlock(m);", 2}, {"x=cas(x,5,6);", 2}, {"int a=x;", 1},
	} {
		// The block around it is that of an if, which begins two more.
		text := "int x=5;lock m;thread{" + inner(busy(9990)) + x.mark + inner(busy(9998)) + "}"
		if got := run(t, text); got.Status != api.Done || got.Steps != x.steps {
			t.Errorf("%q: %v, want done", x.mark, got)
		}
		text = "int x=5;lock m;thread{" + inner(busy(9990)) + x.mark + inner(busy(9999)) + "}"
		if got := run(t, text); got.Status != api.Out || got.Steps != x.steps {
			t.Errorf("%q: %v, want out", x.mark, got)
		}
	}
	want(t, "what was done", run(t, "int x=1;thread{x=2;print(x);while(1){}}thread{x=3;}"), api.Trace{Status: api.Out, Prints: []int{0, 2}, Words: []int{2}, Steps: 3})
	want(t, "another one goes on", run(t, "int x=1;thread{x=2;print(x);while(1){}}thread{x=3;}", 1), api.Trace{Status: api.Out, Prints: []int{0, 2}, Words: []int{2}, Steps: 4})
	want(t, "each by itself", run(t, strings.Repeat("thread{"+most+"}", 4)), api.Trace{})
	for i := range 4 {
		threads := slices.Repeat([]string{"thread{print(1);" + most + "}"}, 4)
		threads[i] = "thread{" + more + "print(2);}"
		want(t, "one of four", run(t, strings.Join(threads, "")), api.Trace{Status: api.Out})
	}
	want(t, "ahead of a fall", run(t, "lock m;thread{unlock(m);}thread{while(1){}}"), api.Trace{Status: api.Out})
	want(t, "a fall", run(t, "lock m;thread{unlock(m);while(1){}}"), api.Trace{Status: api.Fell, Steps: 1})
	want(t, "never come to", run(t, "lock m;thread{lock(m);lock(m);while(1){}}"), api.Trace{Status: api.Stuck, Steps: 1})
	want(t, "loops with a mark", run(t, "int x=3;thread{while(x){if(1){"+busy(4000)+"}x=x-1;if(1){"+busy(5000)+"}}}"), api.Trace{Words: []int{0}, Steps: 10})
}
