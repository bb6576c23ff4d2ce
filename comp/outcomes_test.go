package comp_test

import (
	"fmt"
	"slices"
	"strings"
	"testing"

	"sluice/api"
	"sluice/comp"
	"sluice/race"
	"sluice/rtl"
	"sluice/sc"
	"sluice/source"
	"sluice/space"
	"sluice/tso"
)

// globals counts them: all of them stand ahead of the first thread here.
func globals(text string) int {
	head, _, _ := strings.Cut(text, "thread")
	return strings.Count(head, "int ")
}

// told writes outcomes without further words, each once, in order; an empty list may be nil or not.
func told(list []api.Outcome, words int) []string {
	var lines []string
	for _, o := range list {
		if o.Status != api.Fell {
			o.Words = o.Words[:words]
		}
		lines = append(lines, fmt.Sprint(o.Status, o.Words, o.Prints))
	}
	slices.Sort(lines)
	return slices.Compact(lines)
}

// apart tells whether race.Find says that no orders of a text clash.
func apart(t *testing.T, text string) bool {
	t.Helper()
	p, f := rtl.Make(text)
	if f.Code != api.OK {
		t.Fatal(text, f)
	}
	clashes, f := race.Find(p)
	return f.Code == api.OK && len(clashes) == 0
}

// findings are what is told of a text and of what it is compiled to.
type findings struct {
	outcomes []string
	sc, tso  bool // what was held against the outcomes
	spilt    bool
	threads  int
}

// same holds what can come of a text against what can come of it compiled: by SC, and if nothing clashes by TSO.
func same(t *testing.T, text string) findings {
	t.Helper()
	list, f := source.Outcomes(text)
	if f.Code != api.OK {
		return findings{}
	}
	p, f := comp.Compile(text)
	if f.Code != api.OK {
		return findings{}
	}
	words := globals(text)
	found := findings{outcomes: told(list, words), spilt: len(p.Words) > words, threads: len(p.Code)}
	if list, f = space.SC(p); f.Code == api.OK {
		found.sc = true
		if got := told(list, words); !slices.Equal(got, found.outcomes) {
			t.Errorf("%q: by SC %v, want %v: %q", text, got, found.outcomes, written(t, p))
		}
	}
	if list, f = space.TSO(p); f.Code == api.OK {
		found.tso = apart(t, text)
		if got := told(list, words); found.tso && !slices.Equal(got, found.outcomes) {
			t.Errorf("%q: by TSO %v, want %v: %q", text, got, found.outcomes, written(t, p))
		}
	}
	return found
}

// comes holds all that can come of a text and of what it is compiled to, and whether that is so with stores that wait, as nothing clashes.
func comes(t *testing.T, text string, alike bool, want ...string) {
	t.Helper()
	compiled(t, text)
	if found := same(t, text); !found.sc || found.tso != alike || !slices.Equal(found.outcomes, want) {
		t.Errorf("%q: %v, want %v", text, found, want)
	}
}

// Q2, Q3: known texts, with each way to end.
func TestOutcomes(t *testing.T) {
	comes(t, "thread{}", true, "0 [] []")
	comes(t, "int x;thread{x=1+2*3;}", true, "0 [7] []")
	comes(t, "int x;lock m;thread{lock(m);x=x+1;unlock(m);}thread{lock(m);x=x*2;unlock(m);}", true, "0 [1] []", "0 [2] []")
	comes(t, "int x;thread{x=x+1;}thread{x=x+1;}", false, "0 [1] []", "0 [2] []")
	comes(t, "int x;int a;int b;thread{a=cas(x,0,5);}thread{b=cas(x,0,6);}", true, "0 [5 1 0] []", "0 [6 0 1] []")
	comes(t, "int x;int y;thread{int a=0;x=5;a=cas(y,0,1);}thread{int a=0;while(!a){a=cas(y,1,2);}print(x);}", true, "0 [5 2] [1 5]")
	comes(t, "int x=4;lock m;thread{print(x);unlock(m);}thread{x=6;}", false, "1 [] [0 4]", "1 [] [0 6]")
	comes(t, "int x=4;lock m;thread{print(x);unlock(m);}thread{print(9);}", true, "1 [] [0 4 1 9]", "1 [] [0 4]", "1 [] [1 9 0 4]")
	comes(t, "lock m;lock n;thread{lock(m);lock(n);unlock(n);unlock(m);}thread{lock(n);lock(m);unlock(m);unlock(n);}", true, "0 [] []", "2 [] []")
	comes(t, "int x;int y;thread{while(!x){}print(y);}thread{y=1;x=1;}", false, "0 [1 1] [0 1]")
	comes(t, "int x;thread{int a=2;if(a>1&&a<3||x){print(a);}else{print(-a);}while(a==3){print(9);}}thread{int n=0;while(n!=0){x=n;}x=n+1;}", true, "0 [1] [0 2]")
	comes(t, "int x;thread{while(1){x=!x;}}thread{fence;}", true)
	comes(t, "int x;thread{"+eight+"}", true, "0 [28] [0 -4]")
	comes(t, "int x=3;lock m;thread{lock(m);"+eight+"unlock(m);}thread{lock(m);x=x+1;unlock(m);}", true, "0 [53] [0 -1]", "0 [60] [0 0]")
}

// eight locals are needed at once, and so is what they are added up in.
const eight = "int a=x;int b=a+1;int c=b+1;int d=c+1;int e=d+1;int f=e+1;int g=f+1;int h=g+1;print(a-b+c-d+e-f+g-h+a);x=a+b+c+d+e+f+g+h;"

// Q3: where orders clash, stores that wait can be seen.
func TestOutcomesOfClashes(t *testing.T) {
	text := "int x;int y;int a=7;int b=7;thread{x=1;a=y;}thread{y=1;b=x;}"
	comes(t, text, false, "0 [1 1 0 1] []", "0 [1 1 1 0] []", "0 [1 1 1 1] []")
	list, f := space.TSO(compiled(t, text))
	if got := told(list, 4); f.Code != api.OK || !slices.Equal(got, []string{"0 [1 1 0 0] []", "0 [1 1 0 1] []", "0 [1 1 1 0] []", "0 [1 1 1 1] []"}) {
		t.Error(got, f)
	}
}

// counted adds up what is told of made-up texts.
func (found findings) counted(seen map[string]int) {
	count := func(what string, is bool) {
		if is {
			seen[what]++
		}
	}
	count("SC", found.sc)
	count("SC, many", found.sc && len(found.outcomes) > 1)
	count("SC, spilt", found.sc && found.spilt)
	several := found.tso && found.threads > 1
	count("TSO, threads", several)
	count("TSO, many", several && len(found.outcomes) > 1)
	count("TSO, spilt", several && found.spilt)
	for _, line := range found.outcomes {
		count("SC, status "+line[:1], found.sc)
		count("TSO, status "+line[:1], several)
	}
}

// enough holds that made-up texts say something: each of these comes so often at least.
func enough(t *testing.T, seen, least map[string]int) {
	t.Helper()
	for what, n := range least {
		if seen[what] < n {
			t.Error(what, "comes", seen[what], "times")
		}
	}
}

// Q2: made-up texts that are small, so that all that can come of what they are compiled to is told.
func TestOutcomesOfAny(t *testing.T) {
	d := dice(43)
	seen := map[string]int{}
	for i := range 1000 {
		w := writer{dice: &d, threads: 3, statements: 4, deep: i % 3, crowd: max(0, i%12-3)}
		same(t, w.program()).counted(seen)
	}
	enough(t, seen, map[string]int{"SC": 700, "SC, many": 150, "SC, spilt": 250, "SC, status 0": 700, "SC, status 1": 70, "SC, status 2": 15})
}

// Q3: made-up texts in which few orders clash.
func TestOutcomesWithoutClashes(t *testing.T) {
	d := dice(44)
	seen := map[string]int{}
	for i := range 1000 {
		w := writer{dice: &d, threads: 3, statements: 3, deep: i % 3, crowd: max(0, i%12-3), guarded: true}
		same(t, w.program()).counted(seen)
	}
	enough(t, seen, map[string]int{"TSO, threads": 450, "TSO, many": 150, "TSO, spilt": 150, "TSO, status 0": 500, "TSO, status 1": 70, "TSO, status 2": 25})
}

// runner is a face that does one run.
type runner func(p api.Program, script []int) (api.Trace, api.Fault)

// ends holds that runs of what a text is compiled to end as the text can, and counts how.
func ends(t *testing.T, d *dice, run runner, text string, outcomes []api.Outcome, seen map[string]int) {
	t.Helper()
	p, f := comp.Compile(text)
	if f.Code != api.OK {
		return
	}
	want := told(outcomes, globals(text))
	for range 10 {
		var script []int
		for range d.below(200) {
			script = append(script, d.below(1000)-500)
		}
		got, _ := run(p, script)
		end := api.Outcome{Status: got.Status, Prints: got.Prints}
		if got.Status != api.Fell {
			end.Words = got.Words
		}
		seen[fmt.Sprint("status ", got.Status)]++
		if line := told([]api.Outcome{end}, globals(text))[0]; got.Status != api.Out && !slices.Contains(want, line) {
			t.Errorf("%q %v: %s is none of %v", text, script, line, want)
		}
	}
}

// Q2, Q3: runs of greater texts, by any scripts, also with stores that wait if nothing clashes.
func TestRunsOfAny(t *testing.T) {
	for _, guarded := range []bool{false, true} {
		d := dice(45)
		seen := map[string]int{}
		for i := range 800 {
			w := writer{dice: &d, threads: 3, statements: 7, deep: 2, crowd: i % 20, guarded: guarded}
			text := w.program()
			outcomes, f := source.Outcomes(text)
			switch {
			case f.Code != api.OK:
			case !guarded:
				ends(t, &d, sc.Run, text, outcomes, seen)
			case apart(t, text):
				ends(t, &d, tso.Run, text, outcomes, seen)
			}
		}
		enough(t, seen, map[string]int{"status 0": 1000, "status 1": 200, "status 2": 100})
	}
}

// Q2, Q3: a single thread has one run, which comes to what its text comes to, however much it does.
func TestSingleThreads(t *testing.T) {
	d := dice(46)
	seen := map[string]int{}
	for i := range 2000 {
		w := writer{dice: &d, threads: 1, statements: 15, deep: i % 5, crowd: i % 40}
		text := w.program()
		p, f := comp.Compile(text)
		if f.Code != api.OK {
			continue
		}
		want, _ := source.Run(text, nil)
		for _, run := range []runner{sc.Run, tso.Run} {
			got, _ := run(p, slices.Repeat([]int{d.below(2)}, d.below(500)))
			if want.Status == api.Out || got.Status == api.Out {
				continue
			}
			seen[fmt.Sprint("status ", got.Status)]++
			fell := got.Status == api.Fell // Then some stores may wait still.
			if got.Status != want.Status || !slices.Equal(got.Prints, want.Prints) || !fell && !slices.Equal(got.Words[:globals(text)], want.Words) {
				t.Errorf("%q: %v, want %v", text, got, want)
			}
		}
	}
	enough(t, seen, map[string]int{"status 0": 1000, "status 1": 200, "status 2": 40})
}
