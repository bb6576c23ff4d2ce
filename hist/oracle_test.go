package hist_test

import (
	"slices"
	"testing"

	"sluice/api"
	"sluice/sc"
)

// done is a second writing of the chapters 2 and 18: all events of a run, one after the other, to hold the program against.
func done(p api.Program, script []int) []api.Event {
	var list []api.Event
	words, owner, at := slices.Clone(p.Words), make([]int, p.Locks), make([]int, len(p.Code))
	regs := make([][]int, len(p.Code))
	for i := range regs {
		regs[i] = make([]int, p.Regs)
	}
	for steps := 0; steps < api.MaxSteps; steps++ {
		var able []int
		for i, code := range p.Code {
			if at[i] < len(code) && !(code[at[i]].Op == api.OpLock && owner[code[at[i]].A] != 0) {
				able = append(able, i)
			}
		}
		if len(able) == 0 {
			break
		}
		who := able[0]
		if len(able) > 1 && len(script) > 0 {
			who = able[(script[0]%len(able)+len(able))%len(able)]
			script = script[1:]
		}
		x, r := p.Code[who][at[who]], regs[who]
		at[who]++
		load := func(word int) int {
			list = append(list, api.Event{Thread: who, Word: word, Kind: 1, Value: words[word]})
			return words[word]
		}
		store := func(word, number int) {
			list = append(list, api.Event{Thread: who, Word: word, Kind: 2, Value: number})
			words[word] = number
		}
		no := func(word int) bool { return word < 0 || word >= len(words) }
		bit := map[bool]int{true: 1}
		switch x.Op {
		case api.OpConst:
			r[x.A] = x.B
		case api.OpMove:
			r[x.A] = r[x.B]
		case api.OpAdd:
			r[x.A] = r[x.B] + r[x.C]
		case api.OpSub:
			r[x.A] = r[x.B] - r[x.C]
		case api.OpMul:
			r[x.A] = r[x.B] * r[x.C]
		case api.OpLess:
			r[x.A] = bit[r[x.B] < r[x.C]]
		case api.OpSame:
			r[x.A] = bit[r[x.B] == r[x.C]]
		case api.OpLoad:
			r[x.A] = load(x.B)
		case api.OpStore:
			store(x.A, r[x.B])
		case api.OpLoadAt:
			if no(r[x.B]) {
				return list
			}
			r[x.A] = load(r[x.B])
		case api.OpStoreAt:
			if no(r[x.A]) {
				return list
			}
			store(r[x.A], r[x.B])
		case api.OpCas:
			same := load(x.A) == r[x.B]
			if same {
				store(x.A, r[x.C])
			}
			r[x.B] = bit[same]
		case api.OpJump:
			at[who] = x.A
		case api.OpZero:
			if r[x.A] == 0 {
				at[who] = x.B
			}
		case api.OpLock:
			owner[x.A] = who + 1
		case api.OpUnlock:
			if owner[x.A] != who+1 {
				return list
			}
			owner[x.A] = 0
		}
	}
	return list
}

// could tells whether some order of the events is as it has to be: it tries each, and looks at it when it is whole.
func could(words []int, list []api.Event) bool {
	var rows [4][]api.Event
	for _, e := range list {
		rows[e.Thread] = append(rows[e.Thread], e)
	}
	var try func(order []api.Event, at [4]int) bool
	try = func(order []api.Event, at [4]int) bool {
		if len(order) == len(list) {
			return fits(words, order)
		}
		for i := range at {
			if at[i] < len(rows[i]) {
				next := at
				next[i]++
				if try(append(slices.Clip(order), rows[i][at[i]]), next) {
					return true
				}
			}
		}
		return false
	}
	return try(nil, [4]int{})
}

// fits looks back from each load to the last store into its word.
func fits(words []int, order []api.Event) bool {
	for at, e := range order {
		if e.Kind == 2 {
			continue
		}
		says := words[e.Word]
		for back := at - 1; back >= 0; back-- {
			if order[back].Kind == 2 && order[back].Word == e.Word {
				says = order[back].Value
				break
			}
		}
		if says != e.Value {
			return false
		}
	}
	return true
}

// dice gives numbers that are the same each time, and look as if they were not.
type dice uint64

func (d *dice) below(n int) int {
	*d = *d*6364136223846793005 + 1442695040888963407
	return int(uint64(*d) >> 33 % uint64(n))
}

// order is one that may be among so many of a thread, where there are three registers and words and two locks.
func (d *dice) order(size int) api.Instr {
	op := 1 + d.below(18)
	if d.below(3) > 0 {
		op = []int{api.OpLoad, api.OpStore, api.OpCas, api.OpLoadAt, api.OpStoreAt, api.OpConst}[d.below(6)]
	}
	x := api.Instr{Op: op, A: d.below(3), B: d.below(3), C: d.below(3)}
	switch op {
	case api.OpConst:
		x.B, x.C = d.below(5)-1, 0
	case api.OpMove, api.OpLoadAt, api.OpStoreAt, api.OpLoad, api.OpStore:
		x.C = 0
	case api.OpFence:
		x = api.Instr{Op: op}
	case api.OpJump:
		x = api.Instr{Op: op, A: d.below(size + 1)}
	case api.OpZero:
		x.B, x.C = d.below(size+1), 0
	case api.OpPrint:
		x.B, x.C = 0, 0
	case api.OpLock, api.OpUnlock:
		x = api.Instr{Op: op, A: d.below(2)}
	}
	return x
}

// program is one that may be; its words hold 0, 1 and 2.
func (d *dice) program() api.Program {
	p := api.Program{Words: []int{0, 1, 2}, Locks: 2, Regs: 3, Code: make([][]api.Instr, 1+d.below(4))}
	for i := range p.Code {
		n := d.below(9)
		for range n {
			p.Code[i] = append(p.Code[i], d.order(n))
		}
	}
	return p
}

func (d *dice) script() []int {
	var list []int
	for range d.below(40) {
		list = append(list, d.below(60)-20)
	}
	return list
}

// events are so many, of so many threads, in which it can happen that all fits.
func (d *dice) events(size, threads, words int) []api.Event {
	list := make([]api.Event, size)
	for i := range list {
		list[i] = api.Event{Thread: d.below(threads), Word: d.below(words), Kind: 1 + d.below(2), Value: d.below(3)}
	}
	return list
}

// S1, S3: the events of many runs are what the second writing says; they may have been, and words end as they say.
func TestOfAgainstOracle(t *testing.T) {
	d := dice(1)
	var full, short, others int
	for range 5000 {
		p, script := d.program(), d.script()
		list, all := of(t, p, script...), done(p, script)
		if !slices.Equal(list, all[:min(len(all), 12)]) {
			t.Fatal(p, script, told(list), told(all))
		}
		if !may(t, p.Words, list) {
			t.Fatal(p, script, told(list), "may not have been")
		}
		if len(all) > 12 {
			full++
			continue
		}
		words := slices.Clone(p.Words)
		for i, e := range list {
			if e.Kind == api.Store {
				words[e.Word] = e.Value
			}
			if i > 0 && e.Thread != list[0].Thread {
				others++
			}
		}
		if r, f := sc.Run(p, script); f != (api.Fault{}) || !slices.Equal(r.Words, words) {
			t.Fatal(p, script, told(list), r, words)
		}
		short++
	}
	if full < 300 || short < 3000 || others < 3000 {
		t.Error("few of a kind:", full, short, others)
	}
}

// S3: of the events of a run any piece from the beginning on may have been; with a load of a number that is nowhere, it may not.
func TestOfChanged(t *testing.T) {
	d := dice(2)
	changed := 0
	for range 2000 {
		p := d.program()
		list := of(t, p, d.script()...)
		for i := range list {
			if !may(t, p.Words, list[:i]) {
				t.Fatal(p, told(list[:i]))
			}
			if list[i].Kind == api.Load {
				changed++
				other := slices.Clone(list)
				other[i].Value = -77
				if may(t, p.Words, other) {
					t.Fatal(p, told(other))
				}
			}
		}
	}
	if changed < 3000 {
		t.Error("few of a kind:", changed)
	}
}

// S2: of many lists of events it is what trying each order says.
func TestMayAgainstOracle(t *testing.T) {
	d := dice(3)
	var kinds [2][10]int
	for range 10000 {
		words := []int{d.below(3), d.below(3), 0}[:1+d.below(3)]
		list := d.events(d.below(10), 1+d.below(4), len(words))
		got := may(t, words, list)
		if got != could(words, list) {
			t.Fatal(words, told(list), got)
		}
		if got {
			kinds[1][len(list)]++
		} else {
			kinds[0][len(list)]++
		}
	}
	for size := 1; size < 10; size++ {
		if kinds[0][size] < 50 || kinds[1][size] < 20 {
			t.Error("few of a kind:", kinds)
		}
	}
}

// S2: of events of a run, each thread's in its order, with one load or store that says something else, or stands elsewhere.
func TestMayOfRunsAgainstOracle(t *testing.T) {
	d := dice(4)
	var kinds [2]int
	for range 3000 {
		p := d.program()
		list := of(t, p, d.script()...)
		if len(list) == 0 {
			continue
		}
		list = list[:min(len(list), 10)]
		for range 1 + d.below(3) {
			i, j := d.below(len(list)), d.below(len(list))
			if d.below(2) == 0 {
				list[i].Value = d.below(4) - 1
			} else {
				list[i], list[j] = list[j], list[i]
			}
		}
		got := may(t, p.Words, list)
		if got != could(p.Words, list) {
			t.Fatal(p.Words, told(list), got)
		}
		if got {
			kinds[1]++
		} else {
			kinds[0]++
		}
	}
	if kinds[0] < 500 || kinds[1] < 500 {
		t.Error("few of a kind:", kinds)
	}
}
