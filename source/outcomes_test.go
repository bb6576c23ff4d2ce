package source_test

import (
	"fmt"
	"reflect"
	"slices"
	"strings"
	"testing"

	"sluice/api"
	"sluice/check"
	"sluice/source"
	"sluice/syntax"
)

// K3: each outcome once, in the order of status, words, prints.
func TestOutcomes(t *testing.T) {
	comes(t, "int x;thread{x=x+1;}thread{x=x+1;}", "0 [1] []", "0 [2] []")
	comes(t, "int x;int y;thread{x=1;print(y);}thread{y=1;print(x);}",
		"0 [1 1] [0 0 1 1]", "0 [1 1] [0 1 1 0]", "0 [1 1] [0 1 1 1]", "0 [1 1] [1 0 0 1]", "0 [1 1] [1 1 0 0]", "0 [1 1] [1 1 0 1]")
	comes(t, "int x;thread{x=-1;}thread{x=10;}thread{x=9;}", "0 [-1] []", "0 [9] []", "0 [10] []")
	comes(t, "thread{print(2);}thread{print(1);}", "0 [] [0 2 1 1]", "0 [] [1 1 0 2]")
	comes(t, "int x;thread{if(x){print(0);print(0);}}thread{x=1;}", "0 [1] []", "0 [1] [0 0 0 0]")
	comes(t, "int x;thread{int a=0;a=cas(x,0,5);x=cas(x,4,9);}", "0 [0] []")
	comes(t, "int x;thread{int a=0;a=cas(x,0,5);print(a);}thread{int a=0;a=cas(x,0,6);print(a);}",
		"0 [5] [0 1 1 0]", "0 [5] [1 0 0 1]", "0 [6] [0 0 1 1]", "0 [6] [1 1 0 0]")
}

// K3: what runs print goes on by itself in each of them, however much was printed ahead.
func TestOutcomesOfPrints(t *testing.T) {
	row := "thread{print(1);print(2);print(3);print(4);}"
	told(t, row+row)
	list, _ := source.Outcomes(row + row)
	if len(list) != 70 {
		t.Error(len(list), "ways to print two rows of four at once, want 70")
	}
	for _, o := range list {
		var rows [2][]int
		for pair := range slices.Chunk(o.Prints, 2) {
			rows[pair[0]] = append(rows[pair[0]], pair[1])
		}
		if four := []int{1, 2, 3, 4}; !slices.Equal(rows[0], four) || !slices.Equal(rows[1], four) {
			t.Error(o)
		}
	}
}

// K3: runs that fall have no words, those that are stuck have; what is printed till then is told.
func TestOutcomesThatFail(t *testing.T) {
	comes(t, "int x=4;lock m;thread{unlock(m);}", "1 [] []")
	comes(t, "int x=4;lock m;thread{print(x);x=5;unlock(m);}thread{x=6;}", "1 [] [0 4]", "1 [] [0 6]")
	comes(t, "int x;lock m;thread{lock(m);x=1;unlock(m);}thread{if(x){lock(m);}unlock(m);}", "0 [1] []", "1 [] []")
	comes(t, "lock m;thread{lock(m);}thread{lock(m);}", "2 [] []")
	comes(t, "int x=3;lock m;lock n;thread{lock(m);lock(n);x=x+1;unlock(n);unlock(m);}thread{lock(n);lock(m);x=x*2;unlock(m);unlock(n);}",
		"0 [7] []", "0 [8] []", "2 [3] []")
	comes(t, "int x;lock m;thread{lock(m);x=1;lock(m);}thread{x=2;}thread{print(x);unlock(m);}",
		"1 [] [2 0]", "1 [] [2 1]", "1 [] [2 2]")
}

// K3: runs that never end are no outcome.
func TestOutcomesWithoutEnd(t *testing.T) {
	comes(t, "int x;thread{while(!x){}}thread{x=1;}", "0 [1] []")
	comes(t, "int x;thread{while(!x){}}")
	comes(t, "int x;thread{while(1){fence;}}thread{print(1);}")
	comes(t, "int x;thread{while(1){x=1-x;}}")
	comes(t, "int x;lock m;thread{while(1){x=1;if(x==2){print(3);unlock(m);}}}thread{x=2;}", "1 [] [0 3]")
}

// K3, D1: 4000 states are looked at, and not one more.
func TestStates(t *testing.T) {
	loop := func(n int, body string) string { return fmt.Sprintf("int i=0;while(i<%d){%si=i+1;}", n, body) }
	two := "thread{x=1;}"
	for _, x := range []struct {
		name string
		most int
		text func(n int) string
	}{
		// n at fences, and the end.
		{"one thread", 3999, func(n int) string { return "thread{" + loop(n, "fence;") + "}" }},
		// The first one is a state, too, and so is each that a print makes.
		{"prints", 3999, func(n int) string { return "thread{" + loop(n, "print(1);") + "}" }},
		// n + 2 each, with x set or not: what a block made is there no more behind it.
		{"gone", 1998, func(n int) string { return "int x;thread{if(1){int a=x;}" + loop(n, "fence;") + "}" + two }},
		{"gone in a loop", 799, func(n int) string { return "int x;thread{" + loop(n, "if(1){int a=x;fence;}") + "}" + two }},
		// 2 at first, 3 at each fence, as it was read ahead of the set or behind it, 2 at the end, where it is gone.
		{"kept", 1332, func(n int) string { return "int x;thread{int a=x;" + loop(n, "fence;") + "}" + two }},
		{"hidden", 1332, func(n int) string { return "int x;thread{int a=x;if(1){int a=1;" + loop(n, "fence;") + "}}" + two }},
		// 2 ahead of x, 3 ahead of y, 2 at the end: what was evaluated so far counts.
		{"evaluated", 799, func(n int) string { return "int x;int y;thread{" + loop(n, "int a=x+y;") + "}" + two }},
		{"evaluated below", 799, func(n int) string { return "int x;int y;thread{" + loop(n, "int a=1-(-x+y);") + "}" + two }},
		// 2 ahead of x, 2 ahead of y: !x is 0, whatever x is of 1 and 2; so a left side is over that has not decided.
		{"evaluated to the same", 999, func(n int) string { return "int x=1;int y;thread{" + loop(n, "int a=!x+y;") + "}thread{x=2;}" }},
		{"undecided", 999, func(n int) string { return "int x=1;int y;thread{" + loop(n, "int a=x&&y;") + "}thread{x=2;}" }},
		// 2 ahead of x, 3 ahead of the cas, which leaves y as it is.
		{"cas", 799, func(n int) string { return "int x;int y;thread{" + loop(n, "int a=0;a=cas(y,x,0);") + "}" + two }},
		// 2 ahead of x, 2 ahead of y's set: what is to be set is 0 each time.
		{"set", 999, func(n int) string { return "int x;int y;thread{" + loop(n, "y=x*0;") + "}" + two }},
		// The lock is free, or the second thread has it, or the first one, at n fences and at the end.
		{"locks", 3997, func(n int) string { return "lock m;thread{lock(m);" + loop(n, "fence;") + "}thread{lock(m);}" }},
	} {
		told(t, x.text(x.most))
		full(t, x.text(x.most+1))
	}
}

// K3: some thread that goes on for too long, wherever it is come to.
func TestOutcomesTooLong(t *testing.T) {
	full(t, "thread{while(1){}}")
	full(t, "thread{}thread{"+busy(10001)+"}")
	comes(t, "thread{}thread{"+busy(10000)+"}", "0 [] []")
	full(t, "int x;thread{x=1;while(1){}}")
	full(t, "int x;lock m;thread{if(x){while(1){}}unlock(m);}thread{x=1;}")
	full(t, "int x;thread{if(x==1){while(1){}}}thread{x=1;x=2;}")
	full(t, "int x;thread{print(x);"+busy(10001)+"}")
	comes(t, "int x;thread{print(x);"+busy(10000)+"}", "0 [0] [0 0]")
	comes(t, "int x;thread{if(x==3){while(1){}}}thread{x=1;x=2;}", "0 [2] []")
	comes(t, "lock m;thread{unlock(m);while(1){}}", "1 [] []")
	comes(t, "lock m;thread{lock(m);lock(m);while(1){}}", "2 [] []")
	// One way to a mark is too long, another one to the same mark is not: both come to what is the same there.
	long := "int b=x;if(b){if(1){" + busy(9990) + "}}b=0;" + "fence;"
	comes(t, "int x;thread{"+long+"}thread{x=1;}", "0 [1] []")
	long = "int b=x;if(b){if(1){" + busy(9996) + "}}b=0;" + "fence;"
	full(t, "int x;thread{"+long+"}thread{x=1;}")
	full(t, "int x=1;thread{"+long+"}thread{x=0;}")
}

// Both functions answer Check's fault, with nothing beside it.
func TestFaults(t *testing.T) {
	for _, text := range []string{
		"", " ", "int x;", "int x", "lock m;", "thread{", "thread{}}", "thread{x=1;}", "thread{print(a);}", "int x;int x;thread{}", "lock x;thread{x=1;}",
		"int x;thread{lock(x);}", "thread{int a=1;int a=2;}", "thread{int a=1;a=cas(a,1,2);}", "thread{while(1){int a=1;}a=2;}", "thread{}int x;",
		strings.Repeat("thread{}", 5), strings.Repeat(" ", 4001), "thread{\x00}", "thread{print(1);}\xff", "thread{print(01);}", "thread{int a=b;while(1){}}",
		"thread{" + strings.Repeat("if(1){", 20) + strings.Repeat("}", 21), "thread{" + strings.Repeat("fence;", 600) + "}",
	} {
		refused(t, text)
	}
}

// refused holds that a text has a fault, and that it is Check's.
func refused(t *testing.T, text string) {
	t.Helper()
	_, fault := check.Check(text)
	if fault.Code == api.OK {
		t.Errorf("%q has no fault", text)
	}
	if r, f := source.Run(text, []int{1, 2}); f != fault || len(r.Prints)+len(r.Words)+r.Status+r.Steps != 0 {
		t.Errorf("%q: %v %v, want %v", text, r, f, fault)
	}
	if list, f := source.Outcomes(text); f != fault || len(list) != 0 {
		t.Errorf("%q: %v %v, want %v", text, list, f, fault)
	}
}

// asTheOracle holds all that is told of a text that may be against the second writing, and each run against the outcomes.
func asTheOracle(t *testing.T, text string, d *dice, seen map[string]int) {
	t.Helper()
	outcomes, all := came(text)
	list, f := source.Outcomes(text)
	if !all {
		seen["full"]++
		full(t, text)
	} else if f != (api.Fault{}) {
		t.Errorf("%q: %v", text, f)
	} else {
		texts := told(t, text)
		for _, o := range texts {
			if outcomes[o] == 0 {
				t.Errorf("%q: %q cannot come", text, o)
			}
		}
		if len(list) != len(outcomes) {
			t.Errorf("%q: %v, want %v", text, list, outcomes)
		}
		if len(list) > 1 {
			seen["many"]++
		}
	}
	for range 5 {
		var script []int
		for range d.below(30) {
			script = append(script, d.below(1000)-500)
		}
		got := run(t, text, script...)
		want(t, []any{text, script}, got, ran(text, script))
		seen[fmt.Sprint("status ", got.Status)]++
		words := got.Words
		if got.Status == api.Fell {
			words = nil
		}
		if all && got.Status != api.Out && outcomes[outcome(got.Status, words, got.Prints)] == 0 {
			t.Errorf("%q %v: %v is no outcome", text, script, got)
		}
	}
}

// K1 to K3: made-up programs, as the second writing has them.
func TestAsTheOracle(t *testing.T) {
	d := dice(11)
	seen := map[string]int{}
	for range 400 {
		w := writer{dice: &d}
		text := w.program()
		if _, f := check.Check(text); f.Code != api.OK {
			t.Fatalf("%q: %v", text, f)
		}
		nodes, _ := syntax.Parse(text)
		for _, n := range nodes {
			seen[fmt.Sprint("kind ", n.Kind)]++
		}
		asTheOracle(t, text, &d, seen)
	}
	for kind := api.NProgram; kind <= api.NBinary; kind++ {
		if seen[fmt.Sprint("kind ", kind)] < 50 {
			t.Error("kind", kind, "comes", seen[fmt.Sprint("kind ", kind)], "times")
		}
	}
	for _, what := range []string{"full", "many", "status 0", "status 1", "status 2", "status 3"} {
		if seen[what] < 30 {
			t.Error(what, "comes", seen[what], "times")
		}
	}
}

// P1: any text is answered, and as Check says, if that has a fault.
func TestAnyText(t *testing.T) {
	d := dice(12)
	may := 0
	words := strings.Fields("int lock unlock thread { } { } ( ) ; ; = x x m a 0 1 cas , while if else print fence + - ! && || < 999999999")
	signs := strings.Split("xyabm01;={}()+-!<&| \x80", "")
	for range 3000 {
		w := writer{dice: &d}
		text := []byte(w.program())
		if d.below(3) == 0 {
			text = nil
			for range d.below(20) {
				text = append(text, d.of(words...)+" "...)
			}
		}
		for range d.below(3) {
			if at := d.below(len(text) + 1); at < len(text) {
				text[at] = d.of(signs...)[0]
			}
		}
		if _, f := check.Check(string(text)); f.Code != api.OK {
			refused(t, string(text))
			continue
		}
		may++
		source.Run(string(text), []int{1, -1, 3})
		source.Outcomes(string(text))
	}
	if may < 300 {
		t.Error("only", may, "of them may be")
	}
}

// P3: what is handed in stays as it is, what comes out is new, and each run of the same is the same.
func TestNothingShared(t *testing.T) {
	text := "int x=1;int y=2;lock m;thread{lock(m);x=x+1;print(x);unlock(m);}thread{y=x;print(y);x=5;}"
	behind := []int{1, 0, 1, 1, 7, 8}
	script := slices.Clone(behind)
	first := run(t, text, script[:4]...)
	again := run(t, text, script[:4]...)
	if !reflect.DeepEqual(first, again) || !slices.Equal(script, behind) {
		t.Error(first, again, script)
	}
	spoil(first.Words, first.Prints)
	if slices.Contains(again.Words, 99) || slices.Contains(again.Prints, 99) || !slices.Equal(script, behind) {
		t.Error(again, script)
	}
	list, _ := source.Outcomes(text)
	same, _ := source.Outcomes(text)
	if len(list) < 3 || !reflect.DeepEqual(list, same) {
		t.Fatal(list, same)
	}
	for i := range list {
		for _, o := range list[i+1:] {
			before := fmt.Sprint(o)
			spoil(list[i].Words, list[i].Prints)
			if fmt.Sprint(o) != before {
				t.Error("shared:", o)
			}
		}
	}
}

// spoil writes all over lists, also behind their lengths.
func spoil(lists ...[]int) {
	for _, list := range lists {
		list = list[:cap(list)]
		for i := range list {
			list[i] = 99
		}
	}
}
