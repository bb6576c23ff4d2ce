package pso_test

import (
	"fmt"
	"maps"
	"slices"

	"sluice/api"
)

// waits is a store that waits: key is the word's number, or, of a lock, -1 and its number taken from that.
type waits struct{ key, number int }

// choice is a thread, and the place of what waits there, or -1 for its next order.
type choice struct{ thread, place int }

// machine is a second writing of the chapters 2, 3 and 17, all in one place, to hold the program against.
type machine struct {
	At      []int
	Regs    [][]int
	Words   []int
	Owner   []int // of each lock one more than the thread that has taken it, or 0
	Buffers [][]waits
	Prints  []int
}

func first(p api.Program) machine {
	m := machine{At: make([]int, len(p.Code)), Words: p.Words, Owner: make([]int, p.Locks), Buffers: make([][]waits, len(p.Code))}
	for range p.Code {
		m.Regs = append(m.Regs, make([]int, p.Regs))
	}
	return m.twin()
}

func (m machine) twin() machine {
	m.At, m.Words, m.Owner, m.Prints = slices.Clone(m.At), slices.Clone(m.Words), slices.Clone(m.Owner), slices.Clone(m.Prints)
	m.Regs, m.Buffers = slices.Clone(m.Regs), slices.Clone(m.Buffers)
	for i := range m.Regs {
		m.Regs[i], m.Buffers[i] = slices.Clone(m.Regs[i]), slices.Clone(m.Buffers[i])
	}
	return m
}

// choices tells all that can come next.
func (m machine) choices(p api.Program) []choice {
	var list []choice
	for i := range p.Code {
		if m.able(p, i) {
			list = append(list, choice{i, -1})
		}
		for place := range m.Buffers[i] {
			if m.mayBeDone(i, place) {
				list = append(list, choice{i, place})
			}
		}
	}
	return list
}

// mayBeDone goes through all that waits ahead, for each place anew.
func (m machine) mayBeDone(i, place int) bool {
	this, ahead := m.Buffers[i][place], m.Buffers[i][:place]
	if this.key < 0 {
		return len(ahead) == 0
	}
	return !slices.ContainsFunc(ahead, func(w waits) bool { return w.key < 0 || w.key == this.key })
}

func (m machine) able(p api.Program, i int) bool {
	if m.At[i] == len(p.Code[i]) {
		return false
	}
	x := p.Code[i][m.At[i]]
	switch n := len(m.Buffers[i]); x.Op {
	case api.OpStore, api.OpStoreAt, api.OpUnlock:
		return n != 3
	case api.OpFence, api.OpCas:
		return n == 0
	case api.OpLock:
		return n == 0 && m.Owner[x.A] == 0
	}
	return true
}

// do takes a step, and tells whether the run goes on.
func (m *machine) do(p api.Program, c choice) bool {
	if c.place < 0 {
		return m.order(p, c.thread)
	}
	w := m.Buffers[c.thread][c.place]
	m.Buffers[c.thread] = slices.Concat(m.Buffers[c.thread][:c.place], m.Buffers[c.thread][c.place+1:])
	if w.key < 0 {
		m.Owner[-1-w.key] = 0
	} else {
		m.Words[w.key] = w.number
	}
	return true
}

// ended tells how a run ends where there is nothing to choose.
func (m machine) ended(p api.Program) int {
	for i, code := range p.Code {
		if m.At[i] < len(code) {
			return api.Stuck
		}
	}
	return api.Done
}

// ran tells what comes of a program that may be.
func ran(p api.Program, script []int) api.Trace {
	m := first(p)
	for steps := 0; ; steps++ {
		list := m.choices(p)
		if len(list) == 0 {
			return api.Trace{Prints: m.Prints, Status: m.ended(p), Words: m.Words, Steps: steps}
		}
		if steps == 5000 {
			return api.Trace{Prints: m.Prints, Status: api.Out, Words: m.Words, Steps: steps}
		}
		place := 0
		if len(list) > 1 && len(script) > 0 {
			place = (script[0]%len(list) + len(list)) % len(list)
			script = script[1:]
		}
		if !m.do(p, list[place]) {
			return api.Trace{Prints: m.Prints, Status: api.Fell, Words: m.Words, Steps: steps + 1}
		}
	}
}

// came tells the outcomes of a program that may be, in order, and how many states there are; it gives up above limit.
func came(p api.Program, limit int) ([]api.Outcome, int) {
	found := map[string]api.Outcome{}
	end := func(o api.Outcome) { found[fmt.Sprint(o)] = o }
	known := map[string]bool{}
	row := []machine{first(p)}
	known[fmt.Sprint(row[0])] = true
	for ; len(row) > 0 && len(known) <= limit; row = row[1:] {
		m := row[0]
		list := m.choices(p)
		if len(list) == 0 {
			end(api.Outcome{Status: m.ended(p), Words: m.Words, Prints: m.Prints})
		}
		for _, c := range list {
			next := m.twin()
			if !next.do(p, c) {
				end(api.Outcome{Status: api.Fell, Prints: next.Prints})
			} else if key := fmt.Sprint(next); !known[key] {
				known[key] = true
				row = append(row, next)
			}
		}
	}
	return slices.SortedFunc(maps.Values(found), func(a, b api.Outcome) int {
		if a.Status != b.Status {
			return a.Status - b.Status
		}
		if c := slices.Compare(a.Words, b.Words); c != 0 {
			return c
		}
		return slices.Compare(a.Prints, b.Prints)
	}), len(known)
}

// load goes through what waits, so that the last one of the word stays.
func (m machine) load(i, word int) int {
	number := m.Words[word]
	for _, w := range m.Buffers[i] {
		if w.key == word {
			number = w.number
		}
	}
	return number
}

func (m *machine) order(p api.Program, i int) bool {
	x, r := p.Code[i][m.At[i]], m.Regs[i]
	bit := map[bool]int{true: 1}
	has := func(n int) bool { return n >= 0 && n < len(m.Words) }
	put := func(key, number int) { m.Buffers[i] = append(m.Buffers[i], waits{key, number}) }
	m.At[i]++
	switch x.Op {
	case api.OpConst:
		r[x.A] = x.B
	case api.OpMove:
		r[x.A] = r[x.B]
	case api.OpAdd:
		r[x.A] = r[x.B] + r[x.C]
	case api.OpSub:
		r[x.A] = r[x.B] - r[x.C]
	case api.OpMul:
		r[x.A] = r[x.B] * r[x.C]
	case api.OpLess:
		r[x.A] = bit[r[x.B] < r[x.C]]
	case api.OpSame:
		r[x.A] = bit[r[x.B] == r[x.C]]
	case api.OpLoad:
		r[x.A] = m.load(i, x.B)
	case api.OpStore:
		put(x.A, r[x.B])
	case api.OpLoadAt:
		if !has(r[x.B]) {
			return false
		}
		r[x.A] = m.load(i, r[x.B])
	case api.OpStoreAt:
		if !has(r[x.A]) {
			return false
		}
		put(r[x.A], r[x.B])
	case api.OpCas:
		same := m.Words[x.A] == r[x.B]
		if same {
			m.Words[x.A] = r[x.C]
		}
		r[x.B] = bit[same]
	case api.OpJump:
		m.At[i] = x.A
	case api.OpZero:
		if r[x.A] == 0 {
			m.At[i] = x.B
		}
	case api.OpPrint:
		m.Prints = append(m.Prints, i, r[x.A])
	case api.OpLock:
		m.Owner[x.A] = i + 1
	case api.OpUnlock:
		if m.Owner[x.A] != i+1 || slices.Contains(m.Buffers[i], waits{-1 - x.A, 0}) {
			return false
		}
		put(-1-x.A, 0)
	}
	return true
}

// dice gives numbers that are the same each time, and look as if they were not.
type dice uint64

func (d *dice) below(n int) int {
	*d = *d*6364136223846793005 + 1442695040888963407
	return int(uint64(*d) >> 33 % uint64(n))
}

// maker has how many words and locks a program that is made up has, and of which orders there are more than of others.
type maker struct {
	*dice
	words, locks int
	usual        []int
}

// order is one that may be among so many of a thread.
func (m *maker) order(size int) api.Instr {
	op := 1 + m.below(18)
	if m.below(5) > 0 {
		op = m.usual[m.below(len(m.usual))]
	}
	reg, word, lock, place := func() int { return m.below(3) }, m.below(m.words), m.below(m.locks), m.below(size+1)
	switch op {
	case api.OpConst:
		return api.Instr{Op: op, A: reg(), B: m.below(6) - 1}
	case api.OpMove, api.OpLoadAt, api.OpStoreAt:
		return api.Instr{Op: op, A: reg(), B: reg()}
	case api.OpLoad:
		return api.Instr{Op: op, A: reg(), B: word}
	case api.OpStore:
		return api.Instr{Op: op, A: word, B: reg()}
	case api.OpFence:
		return api.Instr{Op: op}
	case api.OpCas:
		return api.Instr{Op: op, A: word, B: reg(), C: reg()}
	case api.OpJump:
		return api.Instr{Op: op, A: place}
	case api.OpZero:
		return api.Instr{Op: op, A: reg(), B: place}
	case api.OpPrint:
		return api.Instr{Op: op, A: reg()}
	case api.OpLock, api.OpUnlock:
		return api.Instr{Op: op, A: lock}
	}
	return api.Instr{Op: op, A: reg(), B: reg(), C: reg()}
}

// program is one that may be; its words hold 0 and so on.
func (m *maker) program(threads, size int) api.Program {
	p := api.Program{Locks: m.locks, Regs: 3, Code: make([][]api.Instr, 1+m.below(threads))}
	for i := range m.words {
		p.Words = append(p.Words, i)
	}
	for i := range p.Code {
		n := m.below(size + 1)
		for range n {
			p.Code[i] = append(p.Code[i], m.order(n))
		}
	}
	return p
}

// sending is one that may be, whose first thread stores into two words, and whose others look at both; any order stands between.
func (m *maker) sending() api.Program {
	p := api.Program{Words: []int{0, 1}, Locks: m.locks, Regs: 3}
	word := m.below(2)
	p.Code = append(p.Code, []api.Instr{
		{Op: api.OpConst, B: 2 + m.below(2)},
		{Op: api.OpStore, A: word},
		m.order(4),
		{Op: api.OpStore, A: 1 - word},
	})
	for range 1 + m.below(2) {
		p.Code = append(p.Code, []api.Instr{
			{Op: api.OpLoad, A: 1, B: m.below(2)},
			m.order(5),
			{Op: api.OpLoad, A: 2, B: m.below(2)},
			{Op: api.OpPrint, A: 1},
			{Op: api.OpPrint, A: 2},
		})
	}
	return p
}

// guarded is one without clashes: each thread touches words under the lock 0 alone, as often as it likes; the word 2 by cas alone.
func (m *maker) guarded() api.Program {
	p := api.Program{Words: []int{0, 1, 0}, Locks: 2, Regs: 3}
	for i := range 2 + m.below(2) {
		code := []api.Instr{{Op: api.OpConst, B: 3 + i}}
		for range 1 + m.below(2) {
			code = append(code, api.Instr{Op: api.OpLock})
			for range 1 + m.below(3) {
				code = append(code, m.under())
			}
			code = append(code, api.Instr{Op: api.OpUnlock})
			if m.below(2) == 0 {
				code = append(code, api.Instr{Op: api.OpCas, A: 2, B: 2, C: m.below(2)})
			}
		}
		p.Code = append(p.Code, append(code, api.Instr{Op: api.OpPrint, A: 1}))
	}
	return p
}

// under is an order that stands under the lock 0; now and then the run falls there, or gets stuck.
func (m *maker) under() api.Instr {
	word := m.below(2)
	switch m.below(12) {
	case 0, 1, 2, 3:
		return api.Instr{Op: api.OpLoad, A: 1, B: word}
	case 4:
		return api.Instr{Op: api.OpAdd, A: 0, B: 0, C: 1}
	case 5:
		return api.Instr{Op: api.OpUnlock, A: m.below(2)}
	case 6:
		return api.Instr{Op: api.OpLock, A: 1}
	}
	return api.Instr{Op: api.OpStore, A: word}
}
