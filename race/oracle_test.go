package race_test

import (
	"fmt"
	"slices"

	"sluice/api"
)

// machine is a second writing of the chapter 2, all in one place, that also tells what its last step did to a word.
type machine struct {
	At, Words, Owner, Prints []int // of each lock one more than the thread that has taken it, or 0
	Regs                     [][]int
}

// deed is what a step did to a word: 'l' loads, 's' stores, 'c' compares and swaps; 0 is nothing.
type deed struct {
	kind byte
	word int
}

func first(p api.Program) machine {
	m := machine{At: make([]int, len(p.Code)), Words: p.Words, Owner: make([]int, p.Locks)}
	for range p.Code {
		m.Regs = append(m.Regs, make([]int, p.Regs))
	}
	return m.twin()
}

func (m machine) twin() machine {
	m.At, m.Words, m.Owner, m.Prints = slices.Clone(m.At), slices.Clone(m.Words), slices.Clone(m.Owner), slices.Clone(m.Prints)
	m.Regs = slices.Clone(m.Regs)
	for i := range m.Regs {
		m.Regs[i] = slices.Clone(m.Regs[i])
	}
	return m
}

// oracle tells the clashes of a program that may be, and how many states there are; it gives up above limit.
// It has each thread do its step, and looks at what it did, all the same whether the run falls.
func oracle(p api.Program, limit int) (map[[5]int]bool, int) {
	found, known := map[[5]int]bool{}, map[string]bool{}
	row := []machine{first(p)}
	known[fmt.Sprint(row[0])] = true
	for ; len(row) > 0 && len(known) <= limit; row = row[1:] {
		deeds := make([]deed, len(p.Code))
		for i, code := range p.Code {
			m := row[0].twin()
			if m.At[i] == len(code) || code[m.At[i]].Op == api.OpLock && m.Owner[code[m.At[i]].A] != 0 {
				continue
			}
			var goes bool
			deeds[i], goes = m.order(code, i)
			if key := fmt.Sprint(m); goes && !known[key] {
				known[key] = true
				row = append(row, m)
			}
		}
		for j, b := range deeds {
			for i, a := range deeds[:j] {
				if a.kind != 0 && b.kind != 0 && a.word == b.word && (a.kind == 's' || b.kind == 's') {
					found[[5]int{i, row[0].At[i], j, row[0].At[j], a.word}] = true
				}
			}
		}
	}
	return found, len(known)
}

func (m *machine) order(code []api.Instr, i int) (deed, bool) {
	x, r := code[m.At[i]], m.Regs[i]
	bit := map[bool]int{true: 1}
	m.At[i]++
	switch x.Op {
	case api.OpConst:
		r[x.A] = x.B
	case api.OpMove:
		r[x.A] = r[x.B]
	case api.OpAdd:
		r[x.A] = r[x.B] + r[x.C]
	case api.OpSub:
		r[x.A] = r[x.B] - r[x.C]
	case api.OpMul:
		r[x.A] = r[x.B] * r[x.C]
	case api.OpLess:
		r[x.A] = bit[r[x.B] < r[x.C]]
	case api.OpSame:
		r[x.A] = bit[r[x.B] == r[x.C]]
	case api.OpLoad:
		return m.load(r, x.A, x.B)
	case api.OpLoadAt:
		return m.load(r, x.A, r[x.B])
	case api.OpStore:
		return m.store(x.A, r[x.B])
	case api.OpStoreAt:
		return m.store(r[x.A], r[x.B])
	case api.OpCas:
		same := m.Words[x.A] == r[x.B]
		if same {
			m.Words[x.A] = r[x.C]
		}
		r[x.B] = bit[same]
		return deed{'c', x.A}, true
	case api.OpJump:
		m.At[i] = x.A
	case api.OpZero:
		if r[x.A] == 0 {
			m.At[i] = x.B
		}
	case api.OpPrint:
		m.Prints = append(m.Prints, i, r[x.A])
	case api.OpLock:
		m.Owner[x.A] = i + 1
	case api.OpUnlock:
		was := m.Owner[x.A]
		m.Owner[x.A] = 0
		return deed{}, was == i+1
	}
	return deed{}, true
}

func (m *machine) load(r []int, a, word int) (deed, bool) {
	if word < 0 || word >= len(m.Words) {
		return deed{}, false
	}
	r[a] = m.Words[word]
	return deed{'l', word}, true
}

func (m *machine) store(word, number int) (deed, bool) {
	if word < 0 || word >= len(m.Words) {
		return deed{}, false
	}
	m.Words[word] = number
	return deed{'s', word}, true
}

// dice gives numbers that are the same each time, and look as if they were not.
type dice uint64

func (d *dice) below(n int) int {
	*d = *d*6364136223846793005 + 1442695040888963407
	return int(uint64(*d) >> 33 % uint64(n))
}

// anyOrder is one that may be among so many of a thread, mostly one of those that touch words.
func anyOrder(d *dice, size int) api.Instr {
	usual := []int{api.OpStore, api.OpStoreAt, api.OpLoad, api.OpLoadAt, api.OpCas, api.OpPrint, api.OpConst, api.OpLock}
	op := 1 + d.below(18)
	if d.below(4) > 0 {
		op = usual[d.below(len(usual))]
	}
	reg, word, lock, place := func() int { return d.below(2) }, d.below(3), d.below(2), d.below(size+1)
	switch op {
	case api.OpConst:
		return api.Instr{Op: op, A: reg(), B: d.below(5) - 1}
	case api.OpMove, api.OpLoadAt, api.OpStoreAt:
		return api.Instr{Op: op, A: reg(), B: reg()}
	case api.OpLoad:
		return api.Instr{Op: op, A: reg(), B: word}
	case api.OpStore:
		return api.Instr{Op: op, A: word, B: reg()}
	case api.OpFence:
		return api.Instr{Op: op}
	case api.OpCas:
		return api.Instr{Op: op, A: word, B: reg(), C: reg()}
	case api.OpJump:
		return api.Instr{Op: op, A: place}
	case api.OpZero:
		return api.Instr{Op: op, A: reg(), B: place}
	case api.OpPrint:
		return api.Instr{Op: op, A: reg()}
	case api.OpLock, api.OpUnlock:
		return api.Instr{Op: op, A: lock}
	}
	return api.Instr{Op: op, A: reg(), B: reg(), C: reg()}
}

// anyProgram is one that may be, with few threads and orders, three words, two locks.
func anyProgram(d *dice, threads, size int) api.Program {
	p := api.Program{Words: []int{0, 1, 2}, Locks: 2, Regs: 2, Code: make([][]api.Instr, 1+d.below(threads))}
	for i := range p.Code {
		n := d.below(size + 1)
		for range n {
			p.Code[i] = append(p.Code[i], anyOrder(d, n))
		}
	}
	return p
}

// guarded is one that may be, whose threads touch two words under a lock, and then each a word of its own; a few of the programs forget the lock, or have an order too many.
func guarded(d *dice) api.Program {
	p := api.Program{Words: []int{0, 0, 0, 0}, Locks: 1, Regs: 2}
	forgets, more := d.below(4) == 0, d.below(4) == 0
	for i := range 2 {
		code := []api.Instr{{Op: api.OpConst, A: 1, B: 1}, {Op: api.OpLock}, anyTouch(d), anyTouch(d), {Op: api.OpUnlock}}
		if forgets {
			code[1].Op, code[4].Op = api.OpMove, api.OpMove
		}
		if more {
			code = append(code, anyTouch(d))
		}
		p.Code = append(p.Code, append(code, api.Instr{Op: api.OpStore, A: 2 + i, B: 1}, api.Instr{Op: api.OpPrint}))
	}
	return p
}

// anyTouch is an order that touches one of the first two words, where register 0 holds 0 or 1, and register 1 holds 1.
func anyTouch(d *dice) api.Instr {
	list := []api.Instr{
		{Op: api.OpStore, A: d.below(2), B: 1},
		{Op: api.OpStoreAt, A: d.below(2), B: 1},
		{Op: api.OpLoad, B: d.below(2)},
		{Op: api.OpLoadAt, B: d.below(2)},
		{Op: api.OpCas, A: d.below(2), B: 0, C: 1},
	}
	return list[d.below(len(list))]
}
