package space_test

import (
	"fmt"
	"slices"

	"sluice/api"
)

// waits is a store that waits: key is the word's number, or, of a lock, -1 and its number taken from that.
type waits struct{ key, number int }

// machine is a second writing of the chapters 2 and 3, all in one place, to hold the program against.
type machine struct {
	At      []int
	Regs    [][]int
	Words   []int
	Owner   []int // of each lock one more than the thread that has taken it, or 0
	Buffers [][]waits
	Prints  []int
}

func first(p api.Program) machine {
	m := machine{At: make([]int, len(p.Code)), Words: p.Words, Owner: make([]int, p.Locks), Buffers: make([][]waits, len(p.Code))}
	for range p.Code {
		m.Regs = append(m.Regs, make([]int, p.Regs))
	}
	return m.twin()
}

func (m machine) twin() machine {
	m.At, m.Words, m.Owner, m.Prints = slices.Clone(m.At), slices.Clone(m.Words), slices.Clone(m.Owner), slices.Clone(m.Prints)
	m.Regs, m.Buffers = slices.Clone(m.Regs), slices.Clone(m.Buffers)
	for i := range m.Regs {
		m.Regs[i], m.Buffers[i] = slices.Clone(m.Regs[i]), slices.Clone(m.Buffers[i])
	}
	return m
}

// oracle tells the outcomes of a program that may be, and how many states there are; it gives up above limit.
func oracle(p api.Program, waiting bool, limit int) (map[string]api.Outcome, int) {
	list := map[string]api.Outcome{}
	end := func(o api.Outcome) { list[fmt.Sprint(o)] = o }
	known := map[string]bool{}
	row := []machine{first(p)}
	known[fmt.Sprint(row[0])] = true
	for ; len(row) > 0 && len(known) <= limit; row = row[1:] {
		rests, ended := true, true
		for i, code := range p.Code {
			ended = ended && row[0].At[i] == len(code)
			for _, drains := range []bool{false, true} {
				if drains && len(row[0].Buffers[i]) == 0 || !drains && !row[0].able(p, i) {
					continue
				}
				rests = false
				next := row[0].twin()
				if drains {
					next.drain(i)
				} else if !next.order(p, i, waiting) {
					end(api.Outcome{Status: api.Fell, Prints: next.Prints})
					continue
				}
				if key := fmt.Sprint(next); !known[key] {
					known[key] = true
					row = append(row, next)
				}
			}
		}
		if rests && ended {
			end(api.Outcome{Status: api.Done, Words: row[0].Words, Prints: row[0].Prints})
		} else if rests {
			end(api.Outcome{Status: api.Stuck, Words: row[0].Words, Prints: row[0].Prints})
		}
	}
	return list, len(known)
}

func (m machine) able(p api.Program, i int) bool {
	if m.At[i] == len(p.Code[i]) {
		return false
	}
	x := p.Code[i][m.At[i]]
	switch n := len(m.Buffers[i]); x.Op {
	case api.OpStore, api.OpStoreAt, api.OpUnlock:
		return n != 3
	case api.OpFence, api.OpCas:
		return n == 0
	case api.OpLock:
		return n == 0 && m.Owner[x.A] == 0
	}
	return true
}

func (m machine) drain(i int) {
	w := m.Buffers[i][0]
	m.Buffers[i] = m.Buffers[i][1:]
	if w.key < 0 {
		m.Owner[-1-w.key] = 0
	} else {
		m.Words[w.key] = w.number
	}
}

// load goes through what waits, so that the last one of the word stays.
func (m machine) load(i, word int) int {
	number := m.Words[word]
	for _, w := range m.Buffers[i] {
		if w.key == word {
			number = w.number
		}
	}
	return number
}

func (m *machine) order(p api.Program, i int, waiting bool) bool {
	x, r := p.Code[i][m.At[i]], m.Regs[i]
	bit := map[bool]int{true: 1}
	has := func(n int) bool { return n >= 0 && n < len(m.Words) }
	put := func(key, number int) {
		m.Buffers[i] = append(m.Buffers[i], waits{key, number})
		if !waiting {
			m.drain(i)
		}
	}
	m.At[i]++
	switch x.Op {
	case api.OpConst:
		r[x.A] = x.B
	case api.OpMove:
		r[x.A] = r[x.B]
	case api.OpAdd:
		r[x.A] = r[x.B] + r[x.C]
	case api.OpSub:
		r[x.A] = r[x.B] - r[x.C]
	case api.OpMul:
		r[x.A] = r[x.B] * r[x.C]
	case api.OpLess:
		r[x.A] = bit[r[x.B] < r[x.C]]
	case api.OpSame:
		r[x.A] = bit[r[x.B] == r[x.C]]
	case api.OpLoad:
		r[x.A] = m.load(i, x.B)
	case api.OpStore:
		put(x.A, r[x.B])
	case api.OpLoadAt:
		if !has(r[x.B]) {
			return false
		}
		r[x.A] = m.load(i, r[x.B])
	case api.OpStoreAt:
		if !has(r[x.A]) {
			return false
		}
		put(r[x.A], r[x.B])
	case api.OpCas:
		same := m.Words[x.A] == r[x.B]
		if same {
			m.Words[x.A] = r[x.C]
		}
		r[x.B] = bit[same]
	case api.OpJump:
		m.At[i] = x.A
	case api.OpZero:
		if r[x.A] == 0 {
			m.At[i] = x.B
		}
	case api.OpPrint:
		m.Prints = append(m.Prints, i, r[x.A])
	case api.OpLock:
		m.Owner[x.A] = i + 1
	case api.OpUnlock:
		if m.Owner[x.A] != i+1 || slices.Contains(m.Buffers[i], waits{-1 - x.A, 0}) {
			return false
		}
		put(-1-x.A, 0)
	}
	return true
}

// dice gives numbers that are the same each time, and look as if they were not.
type dice uint64

func (d *dice) below(n int) int {
	*d = *d*6364136223846793005 + 1442695040888963407
	return int(uint64(*d) >> 33 % uint64(n))
}

// anyOrder is one that may be among so many of a thread, mostly one of those that threads share something by.
func anyOrder(d *dice, size int) api.Instr {
	usual := []int{api.OpStore, api.OpStore, api.OpLoad, api.OpLoad, api.OpPrint, api.OpPrint, api.OpConst, api.OpLock}
	op := 1 + d.below(18)
	if d.below(6) > 0 {
		op = usual[d.below(len(usual))]
	}
	reg, word, lock, place := func() int { return d.below(2) }, d.below(2), d.below(2), d.below(size+1)
	switch op {
	case api.OpConst:
		return api.Instr{Op: op, A: reg(), B: d.below(5) - 1}
	case api.OpMove, api.OpLoadAt, api.OpStoreAt:
		return api.Instr{Op: op, A: reg(), B: reg()}
	case api.OpLoad:
		return api.Instr{Op: op, A: reg(), B: word}
	case api.OpStore:
		return api.Instr{Op: op, A: word, B: reg()}
	case api.OpFence:
		return api.Instr{Op: op}
	case api.OpCas:
		return api.Instr{Op: op, A: word, B: reg(), C: reg()}
	case api.OpJump:
		return api.Instr{Op: op, A: place}
	case api.OpZero:
		return api.Instr{Op: op, A: reg(), B: place}
	case api.OpPrint:
		return api.Instr{Op: op, A: reg()}
	case api.OpLock, api.OpUnlock:
		return api.Instr{Op: op, A: lock}
	}
	return api.Instr{Op: op, A: reg(), B: reg(), C: reg()}
}

// anyProgram is one that may be, with few threads and orders, two words, two locks.
func anyProgram(d *dice, threads, size int) api.Program {
	p := api.Program{Words: []int{0, 1}, Locks: 2, Regs: 2, Code: make([][]api.Instr, 1+d.below(threads))}
	for i := range p.Code {
		n := d.below(size + 1)
		for range n {
			p.Code[i] = append(p.Code[i], anyOrder(d, n))
		}
	}
	return p
}

// crossed is one that may be, whose threads each store a number of their own into a word, and print what one of them holds; any order stands between.
func crossed(d *dice) api.Program {
	p := api.Program{Words: []int{0, 1}, Locks: 2, Regs: 2}
	for i := range 2 + d.below(2) {
		p.Code = append(p.Code, []api.Instr{
			{Op: api.OpConst, B: 2 + i},
			{Op: api.OpStore, A: (i + d.below(2)) % 2},
			anyOrder(d, 5),
			{Op: api.OpLoad, A: 1, B: d.below(2)},
			{Op: api.OpPrint, A: 1},
		})
	}
	return p
}
