package rtl_test

import (
	"fmt"
	"slices"
	"strings"
	"testing"

	"sluice/api"
	"sluice/check"
	"sluice/rtl"
	"sluice/sc"
	"sluice/source"
	"sluice/space"
)

// told writes outcomes as short texts: the status, the words, what is printed; an empty list may be nil or not.
func told(list []api.Outcome) []string {
	var texts []string
	for _, o := range list {
		texts = append(texts, fmt.Sprint(o.Status, o.Words, o.Prints))
	}
	return texts
}

// same holds the outcomes of a text's orders against those of the text, and tells them if both say anything.
func same(t *testing.T, text string) ([]api.Outcome, bool) {
	t.Helper()
	p, f := rtl.Make(text)
	if f.Code != api.OK {
		return nil, false
	}
	want, f := source.Outcomes(text)
	if f.Code != api.OK {
		return nil, false
	}
	got, f := space.SC(p)
	if f.Code != api.OK {
		return nil, false
	}
	if !slices.Equal(told(got), told(want)) {
		t.Errorf("%q: %v, want %v", text, told(got), told(want))
	}
	return got, true
}

// comes holds all that can come of a text and of its orders.
func comes(t *testing.T, text string, want ...string) {
	t.Helper()
	got, all := same(t, text)
	if !all || !slices.Equal(told(got), want) {
		t.Errorf("%q: %v, want %v", text, told(got), want)
	}
}

// L3: known programs, with each way to end.
func TestOutcomes(t *testing.T) {
	comes(t, "thread{}", "0 [] []")
	comes(t, "int x;lock m;thread{lock(m);x=x+1;unlock(m);}thread{lock(m);x=x*2;unlock(m);}", "0 [1] []", "0 [2] []")
	comes(t, "int x;thread{x=x+1;}thread{x=x+1;}", "0 [1] []", "0 [2] []")
	comes(t, "int x;int y;int a=7;int b=7;thread{x=1;a=y;}thread{y=1;b=x;}", "0 [1 1 0 1] []", "0 [1 1 1 0] []", "0 [1 1 1 1] []")
	comes(t, "int x;int a;int b;thread{a=cas(x,0,5);}thread{b=cas(x,0,6);}", "0 [5 1 0] []", "0 [6 0 1] []")
	comes(t, "int x;thread{x=cas(x,0,5);}thread{print(x);}", "0 [1] [1 0]", "0 [1] [1 1]", "0 [1] [1 5]")
	comes(t, "int x=4;lock m;thread{print(x);unlock(m);}thread{x=6;}", "1 [] [0 4]", "1 [] [0 6]")
	comes(t, "lock m;lock n;thread{lock(m);lock(n);unlock(n);unlock(m);}thread{lock(n);lock(m);unlock(m);unlock(n);}", "0 [] []", "2 [] []")
	comes(t, "int x;thread{if(x&&x){print(1);}else{print(2);}}thread{x=1;}", "0 [1] [0 1]", "0 [1] [0 2]")
	comes(t, "int x;int y;thread{while(!x){}print(y);}thread{y=1;x=1;}", "0 [1 1] [0 1]")
	comes(t, "int x;thread{while(1){x=!x;}}thread{fence;}")
}

// evaluated holds that a thread, with x 3 and y -4, prints these numbers, by its orders and by its text.
func evaluated(t *testing.T, statements string, numbers ...int) {
	t.Helper()
	text := "int x=3;int y=-4;thread{" + statements + "}"
	var list []int
	for _, n := range numbers {
		list = append(list, 0, n)
	}
	byText, _ := source.Run(text, nil)
	got, f := sc.Run(made(t, text), nil)
	if f != (api.Fault{}) || got.Status != api.Done || !slices.Equal(got.Prints, list) || !slices.Equal(byText.Prints, list) || !slices.Equal(got.Words, byText.Words) {
		t.Errorf("%q: %v, %v, want %v", statements, got, byText, numbers)
	}
}

// L3: what orders of each kind of node come to.
func TestEvaluated(t *testing.T) {
	evaluated(t, "print(x-y*2-1);print(-x);print(!x);print(!0);print(--y);print(!!y);", 10, -3, 0, 1, -4, 1)
	evaluated(t, "print(x<y);print(y<x);print(x<x);print(x<=y);print(y<=x);print(x<=x);", 0, 1, 0, 0, 1, 1)
	evaluated(t, "print(x>y);print(y>x);print(x>x);print(x>=y);print(y>=x);print(x>=x);", 1, 0, 0, 1, 0, 1)
	evaluated(t, "print(x==y);print(x==x);print(x!=y);print(x!=x);", 0, 1, 1, 0)
	evaluated(t, "print(x&&y);print(x&&0);print(0&&x);print(0&&0);print(x||y);print(x||0);print(0||y);print(0||0);", 1, 0, 0, 0, 1, 1, 1, 0)
	evaluated(t, "print(1+(x||y)*2);print((x&&0)-1);print(x*(x+(x-(x<y||x==3))));", 3, -1, 15)
	evaluated(t, "int a=999999999;a=a*a*a;print(a);a=a*a;print(a<0);print(-a+a);", product(), 0, 0)
	evaluated(t, "int i=0;int s=0;while(i<10){i=i+1;if(i==5){s=s*2;}else{s=s+i;}}print(s);", 60)
	evaluated(t, "int a=1;if(a){int a=2;a=a+1;print(a);}print(a);int x=x+1;print(x);x=9;print(x);", 3, 1, 4, 9)
	evaluated(t, "int a=7;a=cas(x,3,5);print(a);print(x);a=cas(x,3,6);print(a);print(x);y=cas(x,y+9,-y);print(x);print(y);", 1, 5, 0, 5, 4, 1)
}

// product is 999999999 to the third power, gone round.
func product() int {
	n := 999999999
	return n * n * n
}

// L3: made-up programs that are small, so that all that can come of their orders is told.
func TestOutcomesOfAny(t *testing.T) {
	d := dice(31)
	seen := map[string]int{}
	for i := range 2500 {
		w := writer{dice: &d, threads: 3, statements: 3, deep: i % 3}
		text := w.program()
		if _, f := check.Check(text); f.Code != api.OK {
			t.Fatalf("%q: %v", text, f)
		}
		list, all := same(t, text)
		if !all {
			continue
		}
		seen["all"]++
		if len(list) > 1 {
			seen["many"]++
		}
		for _, o := range list {
			seen[fmt.Sprint("status ", o.Status)]++
		}
	}
	for what, least := range map[string]int{"all": 1000, "many": 200, "status 0": 500, "status 1": 100, "status 2": 50} {
		if seen[what] < least {
			t.Error(what, "comes", seen[what], "times")
		}
	}
}

// L3: runs of the orders of greater programs, by any scripts, end as the text can.
func TestRunsOfAny(t *testing.T) {
	d := dice(32)
	seen := map[int]int{}
	for range 800 {
		w := writer{dice: &d, threads: 3, statements: 7, deep: 2}
		text := w.program()
		want, f := source.Outcomes(text)
		if f.Code != api.OK {
			continue
		}
		p := made(t, text)
		for range 10 {
			var script []int
			for range d.below(100) {
				script = append(script, d.below(1000)-500)
			}
			got, _ := sc.Run(p, script)
			seen[got.Status]++
			end := api.Outcome{Status: got.Status, Words: got.Words, Prints: got.Prints}
			if got.Status == api.Fell {
				end.Words = nil
			}
			if got.Status != api.Out && !slices.Contains(told(want), told([]api.Outcome{end})[0]) {
				t.Errorf("%q %v: %v is none of %v", text, script, got, told(want))
			}
		}
	}
	for _, status := range []int{api.Done, api.Fell, api.Stuck} {
		if seen[status] < 300 {
			t.Error("status", status, "comes", seen[status], "times")
		}
	}
}

// L3: single threads have one run each: their orders come to what the text comes to, however much they do.
func TestSingleThreads(t *testing.T) {
	d := dice(33)
	done := 0
	for i := range 3000 {
		w := writer{dice: &d, threads: 1, statements: 15, deep: i % 5}
		text := w.program()
		p, f := rtl.Make(text)
		if f.Code != api.OK {
			continue
		}
		want, _ := source.Run(text, nil)
		got, _ := sc.Run(p, nil)
		if want.Status == api.Out || got.Status == api.Out {
			continue
		}
		done++
		if got.Status != want.Status || !slices.Equal(got.Prints, want.Prints) || !slices.Equal(got.Words, want.Words) {
			t.Errorf("%q: %v, want %v", text, got, want)
		}
	}
	if done < 1500 {
		t.Error("only", done, "of them end")
	}
}

// Threads that are long, and have as many registers as may be, run as their text does.
func TestGreatThreads(t *testing.T) {
	text := "int x;thread{" + locals(179, right(20)) + "x=z;print(z);" + "}"
	if p, f := rtl.Make(text); f.Code != api.ErrFull {
		t.Error(p, f)
	}
	text = "int x;thread{" + locals(178, right(20)) + "x=z;print(z);" + "}"
	got, _ := sc.Run(made(t, text), nil)
	if got.Status != api.Done || !slices.Equal(got.Words, []int{21}) || !slices.Equal(got.Prints, []int{0, 21}) {
		t.Error(got)
	}
	text = "int x;thread{" + strings.Repeat("x=x+1;", 100) + "}"
	got, _ = sc.Run(made(t, text), nil)
	if got.Status != api.Done || !slices.Equal(got.Words, []int{100}) || got.Steps != 400 {
		t.Error(got)
	}
}
