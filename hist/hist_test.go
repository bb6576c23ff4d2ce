package hist_test

import (
	"fmt"
	"math"
	"reflect"
	"slices"
	"strconv"
	"strings"
	"testing"

	"sluice/api"
	"sluice/asm"
	"sluice/hist"
)

// program is that of a text; orders of a thread are parted by "; ".
func program(t *testing.T, head string, threads ...string) api.Program {
	t.Helper()
	text := strings.ReplaceAll(head, "; ", "\n") + "\n"
	for _, orders := range threads {
		text += "thread\n"
		if orders != "" {
			text += strings.ReplaceAll(orders, "; ", "\n") + "\n"
		}
	}
	p, f := asm.Parse(text)
	if f.Code != api.OK {
		t.Fatalf("%q: %v", text, f)
	}
	return p
}

func of(t *testing.T, p api.Program, script ...int) []api.Event {
	t.Helper()
	events, f := hist.Of(p, script)
	if f != (api.Fault{}) {
		t.Fatalf("%v: %v", p, f)
	}
	return events
}

// told writes events as short texts: 0L2=5 is of thread 0, which loads 5 from word 2.
func told(events []api.Event) string {
	var texts []string
	for _, e := range events {
		kind, is := map[int]string{api.Load: "L", api.Store: "S"}[e.Kind]
		if !is {
			kind = "?"
		}
		texts = append(texts, fmt.Sprintf("%d%s%d=%d", e.Thread, kind, e.Word, e.Value))
	}
	return strings.Join(texts, " ")
}

// events are those of such a text.
func events(t *testing.T, text string) []api.Event {
	t.Helper()
	var list []api.Event
	for _, x := range strings.Fields(text) {
		thread, rest, load := strings.Cut(x, "L")
		kind := api.Load
		if !load {
			thread, rest, _ = strings.Cut(x, "S")
			kind = api.Store
		}
		word, value, _ := strings.Cut(rest, "=")
		list = append(list, api.Event{Thread: number(t, thread), Word: number(t, word), Kind: kind, Value: number(t, value)})
	}
	return list
}

func number(t *testing.T, text string) int {
	t.Helper()
	n, err := strconv.Atoi(text)
	if err != nil {
		t.Fatal(err)
	}
	return n
}

// S1: what orders of one thread tell; others than those of words tell nothing.
func TestOfOneThread(t *testing.T) {
	for _, x := range []struct{ what, orders, want string }{
		{"nothing", "", ""},
		{"no words touched", "const 0 1; move 1 0; add 2 0 1; less 0 1 2; print 0; fence; lock 0; unlock 0; zero 0 9; jump 10", ""},
		{"load", "load 0 1; load 0 0; load 2 1", "0L1=-6 0L0=5 0L1=-6"},
		{"store", "store 1 0; const 0 9; store 0 0; store 0 0", "0S1=0 0S0=9 0S0=9"},
		{"both", "const 0 9; store 0 0; load 1 0; store 1 1; load 0 1", "0S0=9 0L0=9 0S1=9 0L1=9"},
		{"loadat", "const 0 1; loadat 0 0; loadat 1 2", "0L1=-6 0L0=5"},
		{"storeat", "const 0 1; storeat 0 0; storeat 1 0", "0S1=1 0S0=1"},
		{"cas in vain", "const 0 4; const 1 7; cas 0 0 1; load 0 0", "0L0=5 0L0=5"},
		{"cas", "const 0 5; const 1 7; cas 0 0 1; load 2 0; store 1 0", "0L0=5 0S0=7 0L0=7 0S1=1"},
		{"cas of another word", "const 0 -6; const 1 7; cas 1 0 1; load 0 0", "0L1=-6 0S1=7 0L0=5"},
		{"cas that leaves what is there", "const 0 5; cas 0 0 0; load 1 0", "0L0=5 0S0=5 0L0=5"},
		{"cas in vain of what would be there then", "const 0 4; const 1 5; cas 0 0 1", "0L0=5"},
		{"cas that becomes 1", "const 0 5; const 1 1; cas 0 0 1; cas 0 0 2", "0L0=5 0S0=1 0L0=1 0S0=0"},
		{"loadat falls", "load 0 0; const 0 2; loadat 1 0; load 0 0", "0L0=5"},
		{"loadat falls below", "const 0 -1; store 0 0; loadat 1 0", "0S0=-1"},
		{"storeat falls", "load 0 1; const 0 2; storeat 0 1; load 0 0", "0L1=-6"},
		{"storeat falls below", "const 0 -1; storeat 0 1", ""},
		{"unlock falls", "load 0 0; store 1 0; unlock 0; load 0 0", "0L0=5 0S1=5"},
		{"stuck", "load 0 0; lock 0; lock 0; load 0 0", "0L0=5"},
		{"out, without an event", "load 0 0; jump 1", "0L0=5"},
		{"great numbers", "const 0 " + fmt.Sprint(math.MinInt) + "; const 1 -1; store 0 0; add 0 0 1; store 1 0", fmt.Sprintf("0S0=%d 0S1=%d", math.MinInt, math.MaxInt)},
	} {
		if got := told(of(t, program(t, "words 5 -6; locks 1; regs 3", x.orders), 3, -1, 8)); got != x.want {
			t.Errorf("%s: %s, want %s", x.what, got, x.want)
		}
	}
	if got := told(of(t, program(t, "words; locks 0; regs 1", "loadat 0 0"))); got != "" {
		t.Error("no words:", got)
	}
}

// S1: events stand in the order in which the script lets them come, each with its thread.
func TestOfByTheScript(t *testing.T) {
	both := program(t, "words 0 0; locks 0; regs 2", "const 0 1; store 0 0; load 1 1", "const 0 1; store 1 0; load 1 0")
	for _, x := range []struct {
		script []int
		want   string
	}{
		{nil, "0S0=1 0L1=0 1S1=1 1L0=1"},
		{[]int{0, 0, 0, 0, 0, 0}, "0S0=1 0L1=0 1S1=1 1L0=1"},
		{[]int{1, 1, 1}, "1S1=1 1L0=0 0S0=1 0L1=1"},
		{[]int{-1, 3, math.MaxInt}, "1S1=1 1L0=0 0S0=1 0L1=1"},
		{[]int{0, 1, 0, 1}, "0S0=1 1S1=1 0L1=1 1L0=1"},
		{[]int{0, 1, 1, 0, 1, 0}, "1S1=1 0S0=1 1L0=1 0L1=1"},
	} {
		if got := told(of(t, both, x.script...)); got != x.want {
			t.Errorf("%v: %s, want %s", x.script, got, x.want)
		}
	}
	four := program(t, "words 0; locks 0; regs 1", "load 0 0", "load 0 0", "load 0 0", "load 0 0")
	if got := told(of(t, four, 3, 1, 1)); got != "3L0=0 1L0=0 2L0=0 0L0=0" {
		t.Error(got)
	}
	section := "lock 0; load 0 0; const 0 1; store 0 0; unlock 0"
	locked := program(t, "words 0; locks 1; regs 1", section, section)
	if got := told(of(t, locked, 1, 0, 0)); got != "1L0=0 1S0=1 0L0=1 0S0=1" {
		t.Error(got)
	}
	cas := program(t, "words 0; locks 0; regs 2", "const 1 1; cas 0 0 1", "const 1 2; cas 0 0 1")
	if got := told(of(t, cas, 0, 1, 1)); got != "1L0=0 1S0=2 0L0=2" {
		t.Error(got)
	}
}

// S1: the first MaxEvents ones alone, also where a cas has its two at the border, or the run never ends.
func TestOfAtMost(t *testing.T) {
	loads := func(n int) string { return strings.Repeat("load 0 0; ", n) }
	twelve := strings.TrimSuffix(strings.Repeat("0L0=5 ", 12), " ")
	eleven := strings.TrimSuffix(twelve, " 0L0=5")
	for _, x := range []struct{ orders, want string }{
		{loads(11) + "print 0", eleven},
		{loads(11) + "store 1 0", eleven + " 0S1=5"},
		{loads(12) + "store 1 0", twelve},
		{loads(13) + "store 1 0", twelve},
		{loads(300) + "store 1 0", twelve},
		{loads(10) + "cas 1 1 1; load 1 0", strings.TrimSuffix(eleven, " 0L0=5") + " 0L1=0 0S1=0"},
		{loads(11) + "cas 1 1 1; load 1 0", eleven + " 0L1=0"},
		{loads(12) + "cas 1 1 1; load 1 0", twelve},
		{"load 0 0; jump 0", twelve},
		{loads(12) + "unlock 0", twelve},
	} {
		list := of(t, program(t, "words 5 0; locks 1; regs 2", x.orders))
		if got := told(list); got != x.want || len(list) > api.MaxEvents {
			t.Errorf("%s: %s, want %s", x.orders, got, x.want)
		}
	}
}

// S1: the example of a cas behind a store.
func TestOfExample(t *testing.T) {
	p := program(t, "words 7; locks 0; regs 2", "const 0 5; store 0 0; const 1 9; cas 0 0 1")
	if got := told(of(t, p)); got != "0S0=5 0L0=5 0S0=9" {
		t.Error(got)
	}
}

// wrongs are programs that may not be.
func wrongs() []api.Program {
	fence := api.Instr{Op: api.OpFence}
	return []api.Program{
		{},
		{Regs: 1},
		{Code: make([][]api.Instr, 5), Regs: 1},
		{Code: [][]api.Instr{{}}, Words: make([]int, 65), Regs: 1},
		{Code: [][]api.Instr{{}}, Regs: 0},
		{Code: [][]api.Instr{{}}, Regs: math.MaxInt},
		{Code: [][]api.Instr{{}}, Regs: 1, Locks: -1},
		{Code: [][]api.Instr{{}}, Regs: 1, Locks: 5},
		{Code: [][]api.Instr{{{Op: api.OpPrint}, {Op: api.OpJump}}, slices.Repeat([]api.Instr{fence}, 401)}, Regs: 1},
		{Code: [][]api.Instr{{{Op: api.OpLoad}}, {fence, {Op: 19}}}, Words: []int{1}, Regs: 1},
		{Code: [][]api.Instr{{fence}, {fence, fence, {Op: 0}}}, Regs: 1},
		{Code: [][]api.Instr{{{Op: api.OpStore}}}, Regs: 1},
		{Code: [][]api.Instr{{{Op: api.OpLoad, B: -1}}}, Words: []int{1}, Regs: 1},
		{Code: [][]api.Instr{{{Op: api.OpUnlock}}}, Regs: 1},
		{Code: [][]api.Instr{{{Op: api.OpJump, A: 2}}}, Regs: 1},
	}
}

// S1: Check's fault, with no event beside it.
func TestOfRefuses(t *testing.T) {
	for _, p := range wrongs() {
		wrong := asm.Check(p)
		if wrong.Code == api.OK {
			t.Fatal("may be:", p)
		}
		if list, f := hist.Of(p, []int{1, 2, 3}); f != wrong || len(list) != 0 {
			t.Errorf("%v: %v, %v, want %v", p, list, f, wrong)
		}
	}
}

// P3: what is handed in stays as it is, what comes out is new, and the same each time.
func TestNothingShared(t *testing.T) {
	behind := []int{1, 2, 3, 4, 5, 6}
	given := func() (api.Program, []int) {
		p := program(t, "words 1 2; locks 1; regs 2", "const 0 1; store 1 0; cas 0 0 1; load 0 1", "load 0 1; print 0; storeat 1 0")
		p.Words = slices.Clone(behind)[:2]
		return p, slices.Clone(behind)[:4]
	}
	p, script := given()
	before, numbers := given()
	first, again := of(t, p, script...), of(t, p, script...)
	if !slices.Equal(first, again) || len(first) < 4 {
		t.Fatal(first, again)
	}
	kept := slices.Clone(first)
	if is, f := hist.May(p.Words, first); !is || f != (api.Fault{}) {
		t.Error(first, f)
	}
	if !slices.Equal(first, kept) {
		t.Error("changed:", first, kept)
	}
	whole := first[:cap(first)]
	for i := range whole {
		whole[i] = api.Event{Thread: 9}
	}
	if !slices.Equal(again, kept) || !slices.Equal(of(t, p, script...), kept) {
		t.Error("shared:", again, kept)
	}
	if !reflect.DeepEqual(p, before) || !slices.Equal(script, numbers) || !slices.Equal(p.Words[:6], behind) || !slices.Equal(script[:6], behind) {
		t.Error("changed:", p, script)
	}
}
