package tso_test

import (
	"slices"
	"testing"

	"sluice/api"
	"sluice/asm"
)

// waits is a store that waits: key is the word's number, or, of a lock, -1 and its number taken from that.
type waits struct{ key, number int }

// machine is a second writing of the chapter, all in one place, to hold the program against.
type machine struct {
	p      api.Program
	at     []int
	regs   [][]int
	words  []int
	owner  map[int]int // of each lock that is taken one more than its thread
	buffer map[int][]waits
	out    api.Trace
}

// oracle tells what comes of a program that may be.
func oracle(p api.Program, script []int) api.Trace {
	m := &machine{p: p, at: make([]int, len(p.Code)), words: slices.Clone(p.Words), owner: map[int]int{}, buffer: map[int][]waits{}}
	for range p.Code {
		m.regs = append(m.regs, make([]int, p.Regs))
	}
	for m.turn(&script) {
	}
	m.out.Words = m.words
	return m.out
}

// turn does a step, if there is one.
func (m *machine) turn(script *[]int) bool {
	var picks []int // twice the thread's number, one more of what waits
	open := false
	for i, code := range m.p.Code {
		if m.at[i] < len(code) {
			open = true
			if m.able(i) {
				picks = append(picks, 2*i)
			}
		}
		if len(m.buffer[i]) > 0 {
			picks = append(picks, 2*i+1)
		}
	}
	switch {
	case len(picks) == 0 && open:
		m.out.Status = api.Stuck
		return false
	case len(picks) == 0:
		return false
	case m.out.Steps >= 5000:
		m.out.Status = api.Out
		return false
	}
	place := 0
	if len(picks) > 1 && len(*script) > 0 {
		place = ((*script)[0]%len(picks) + len(picks)) % len(picks)
		*script = (*script)[1:]
	}
	m.out.Steps++
	if picks[place]%2 == 1 {
		m.drain(picks[place] / 2)
		return true
	}
	if !m.order(picks[place] / 2) {
		m.out.Status = api.Fell
		return false
	}
	return true
}

func (m *machine) able(i int) bool {
	x := m.p.Code[i][m.at[i]]
	switch n := len(m.buffer[i]); x.Op {
	case api.OpStore, api.OpStoreAt, api.OpUnlock:
		return n != 3
	case api.OpFence, api.OpCas:
		return n == 0
	case api.OpLock:
		return n == 0 && m.owner[x.A] == 0
	}
	return true
}

func (m *machine) drain(i int) {
	w := m.buffer[i][0]
	m.buffer[i] = slices.Clone(m.buffer[i][1:])
	if w.key < 0 {
		delete(m.owner, -1-w.key)
	} else {
		m.words[w.key] = w.number
	}
}

// load goes through what waits, so that the last one of the word stays.
func (m *machine) load(i, word int) int {
	number := m.words[word]
	for _, w := range m.buffer[i] {
		if w.key == word {
			number = w.number
		}
	}
	return number
}

func (m *machine) order(i int) bool {
	x, r := m.p.Code[i][m.at[i]], m.regs[i]
	bit := map[bool]int{true: 1}
	has := func(n int) bool { return n >= 0 && n < len(m.words) }
	put := func(key, number int) { m.buffer[i] = append(m.buffer[i], waits{key, number}) }
	m.at[i]++
	switch x.Op {
	case api.OpConst:
		r[x.A] = x.B
	case api.OpMove:
		r[x.A] = r[x.B]
	case api.OpAdd:
		r[x.A] = r[x.B] + r[x.C]
	case api.OpSub:
		r[x.A] = r[x.B] - r[x.C]
	case api.OpMul:
		r[x.A] = r[x.B] * r[x.C]
	case api.OpLess:
		r[x.A] = bit[r[x.B] < r[x.C]]
	case api.OpSame:
		r[x.A] = bit[r[x.B] == r[x.C]]
	case api.OpLoad:
		r[x.A] = m.load(i, x.B)
	case api.OpStore:
		put(x.A, r[x.B])
	case api.OpLoadAt:
		if !has(r[x.B]) {
			return false
		}
		r[x.A] = m.load(i, r[x.B])
	case api.OpStoreAt:
		if !has(r[x.A]) {
			return false
		}
		put(r[x.A], r[x.B])
	case api.OpCas:
		same := m.words[x.A] == r[x.B]
		if same {
			m.words[x.A] = r[x.C]
		}
		r[x.B] = bit[same]
	case api.OpJump:
		m.at[i] = x.A
	case api.OpZero:
		if r[x.A] == 0 {
			m.at[i] = x.B
		}
	case api.OpPrint:
		m.out.Prints = append(m.out.Prints, i, r[x.A])
	case api.OpLock:
		m.owner[x.A] = i + 1
	case api.OpUnlock:
		if m.owner[x.A] != i+1 || slices.Contains(m.buffer[i], waits{-1 - x.A, 0}) {
			return false
		}
		put(-1-x.A, 0)
	}
	return true
}

// anyOrder is one that may be among so many of a thread, mostly one of those that buffers have to do with.
func anyOrder(d *dice, size int) api.Instr {
	usual := []int{api.OpStore, api.OpStore, api.OpStore, api.OpLoad, api.OpLoad, api.OpPrint, api.OpPrint, api.OpConst, api.OpLock, api.OpUnlock}
	op := 1 + d.below(18)
	if d.below(4) > 0 {
		op = usual[d.below(len(usual))]
	}
	reg, word, lock, place := func() int { return d.below(3) }, d.below(3), d.below(2), d.below(size+1)
	switch op {
	case api.OpConst:
		return api.Instr{Op: op, A: reg(), B: d.below(5)}
	case api.OpMove, api.OpLoadAt, api.OpStoreAt:
		return api.Instr{Op: op, A: reg(), B: reg()}
	case api.OpLoad:
		return api.Instr{Op: op, A: reg(), B: word}
	case api.OpStore:
		return api.Instr{Op: op, A: word, B: reg()}
	case api.OpFence:
		return api.Instr{Op: op}
	case api.OpCas:
		return api.Instr{Op: op, A: word, B: reg(), C: reg()}
	case api.OpJump:
		return api.Instr{Op: op, A: place}
	case api.OpZero:
		return api.Instr{Op: op, A: reg(), B: place}
	case api.OpPrint:
		return api.Instr{Op: op, A: reg()}
	case api.OpLock, api.OpUnlock:
		return api.Instr{Op: op, A: lock}
	}
	return api.Instr{Op: op, A: reg(), B: reg(), C: reg()}
}

// C1 to C3: many programs, by many scripts, come to what the second writing says; each end is among them.
func TestAgainstOracle(t *testing.T) {
	d := dice(1)
	var ends [4]int
	for range 4000 {
		p := api.Program{Words: []int{1, 2, 3}, Locks: 2, Regs: 3, Code: make([][]api.Instr, 1+d.below(4))}
		for i := range p.Code {
			size := d.below(12)
			for range size {
				p.Code[i] = append(p.Code[i], anyOrder(&d, size))
			}
		}
		if f := asm.Check(p); f.Code != api.OK {
			t.Fatal(p, f)
		}
		for range 5 {
			script := make([]int, d.below(40))
			for i := range script {
				script[i] = d.below(2000) - 1000
			}
			got := run(t, p, script...)
			ends[got.Status]++
			if other := oracle(p, script); !alike(got, other) {
				t.Fatalf("%v by %v: %v, want %v", p, script, got, other)
			}
		}
	}
	for status, n := range ends {
		if n < 50 {
			t.Error("few runs that end so:", status, ends)
		}
	}
}
