package alloc_test

import (
	"fmt"
	"slices"
	"strings"
	"testing"

	"sluice/alloc"
	"sluice/api"
	"sluice/asm"
	"sluice/live"
)

// The functions here are a second writing of the chapter, to hold the program against: it works on the lines of a program's text.

// shape tells what the words of an order's line are: r is read, w is written, b is read and written, c is a place, - is anything else.
func shape(name string) string {
	switch name {
	case "const", "load":
		return "w-"
	case "move", "loadat":
		return "wr"
	case "add", "sub", "mul", "less", "same":
		return "wrr"
	case "store":
		return "-r"
	case "storeat":
		return "rr"
	case "cas":
		return "-br"
	case "jump":
		return "c"
	case "zero":
		return "rc"
	case "print":
		return "r"
	case "lock", "unlock":
		return "-"
	}
	return ""
}

func number(text string) int {
	n := 0
	fmt.Sscan(text, &n)
	return n
}

// become is the lines that one line becomes; words are of spilt registers. Places stay old ones.
func become(line string, colours []int, words map[int]int) []string {
	parts := strings.Fields(line)
	var ahead, behind []string
	reads := 0
	for i, sign := range shape(parts[0]) {
		register := number(parts[i+1])
		if !strings.ContainsRune("rwb", sign) {
			continue
		}
		hand := "6"
		if sign != 'w' {
			if reads++; reads == 2 {
				hand = "7"
			}
		}
		if colours[register] >= 0 {
			parts[i+1] = fmt.Sprint(colours[register])
			continue
		}
		parts[i+1] = hand
		if sign != 'w' {
			ahead = append(ahead, fmt.Sprint("load ", hand, " ", words[register]))
		}
		if sign != 'r' {
			behind = append(behind, fmt.Sprint("store ", words[register], " 6"))
		}
	}
	return slices.Concat(ahead, []string{strings.Join(parts, " ")}, behind)
}

// repainted is a thread's lines, and how many words there are behind it.
func repainted(lines []string, colours []int, next int) ([]string, int) {
	words := map[int]int{}
	for r, c := range colours {
		if c < 0 {
			words[r] = next
			next++
		}
	}
	var groups [][]string
	for _, line := range lines {
		groups = append(groups, become(line, colours, words))
	}
	place := func(old string) string { return fmt.Sprint(len(slices.Concat(groups[:number(old)]...))) }
	var all []string
	for _, line := range slices.Concat(groups...) {
		parts := strings.Fields(line)
		if i := strings.IndexByte(shape(parts[0]), 'c'); i >= 0 {
			parts[i+1] = place(parts[i+1])
		}
		all = append(all, strings.Join(parts, " "))
	}
	return all, next
}

// appliedOf is the text of what Apply has to make, or its fault.
func appliedOf(t *testing.T, p api.Program, colours [][]int) (string, api.Fault) {
	threads := strings.Split(strings.TrimSuffix(shown(t, p), "\n"), "\nthread")
	next := len(p.Words)
	var rest string
	long := api.Fault{}
	for i, text := range threads[1:] {
		lines, behind := repainted(strings.Split(text, "\n")[1:], colours[i], next)
		next = behind
		if len(lines) > api.MaxCode && long.Code == api.OK {
			long = api.Fault{Code: api.ErrSize, Thread: i}
		}
		rest += "\n" + strings.Join(append([]string{"thread"}, lines...), "\n")
	}
	if next > api.MaxWords {
		return "", api.Fault{Code: api.ErrSize}
	}
	if long.Code != api.OK {
		return "", long
	}
	head := strings.Split(threads[0], "\n")
	head[0] += strings.Repeat(" 0", next-len(p.Words))
	head[2] = fmt.Sprint("regs ", api.RealRegs)
	return strings.Join(head, "\n") + rest + "\n", api.Fault{}
}

// mayBe tells whether these are colours, by each two registers that clash.
func mayBe(t *testing.T, p api.Program, colours [][]int) bool {
	clash, f := live.Clash(p)
	if f.Code != api.OK {
		t.Fatal(p, f)
	}
	for thread := range p.Code {
		for a := range p.Regs {
			if colours[thread][a] < -1 || colours[thread][a] > 5 {
				return false
			}
			for b := range a {
				if colours[thread][a] == colours[thread][b] && colours[thread][a] != -1 && slices.Contains(clash[thread][a], b) {
					return false
				}
			}
		}
	}
	return true
}

// dice gives numbers that are the same each time, and look as if they were not.
type dice uint64

func (d *dice) below(n int) int {
	*d = *d*6364136223846793005 + 1442695040888963407
	return int(uint64(*d) >> 33 % uint64(n))
}

// maker makes up programs that may be, with two words and two locks.
type maker struct {
	*dice
	regs int
}

// order is one among so many of a thread.
func (m maker) order(size int) api.Instr {
	reg := func() int { return m.below(m.regs) }
	switch op := 1 + m.below(18); op {
	case api.OpConst:
		return api.Instr{Op: op, A: reg(), B: m.below(4) - 1}
	case api.OpMove, api.OpLoadAt, api.OpStoreAt:
		return api.Instr{Op: op, A: reg(), B: reg()}
	case api.OpLoad:
		return api.Instr{Op: op, A: reg(), B: m.below(2)}
	case api.OpStore:
		return api.Instr{Op: op, A: m.below(2), B: reg()}
	case api.OpFence:
		return api.Instr{Op: op}
	case api.OpCas:
		return api.Instr{Op: op, A: m.below(2), B: reg(), C: reg()}
	case api.OpJump:
		return api.Instr{Op: op, A: m.below(size + 1)}
	case api.OpZero:
		return api.Instr{Op: op, A: reg(), B: m.below(size + 1)}
	case api.OpPrint:
		return api.Instr{Op: op, A: reg()}
	case api.OpLock, api.OpUnlock:
		return api.Instr{Op: op, A: m.below(2)}
	default:
		return api.Instr{Op: op, A: reg(), B: reg(), C: reg()}
	}
}

func (m maker) program(threads, size int) api.Program {
	p := api.Program{Words: []int{0, 3}, Locks: 2, Regs: m.regs, Code: make([][]api.Instr, threads)}
	for i := range p.Code {
		n := m.below(size + 1)
		for range n {
			p.Code[i] = append(p.Code[i], m.order(n))
		}
	}
	return p
}

// colours are some of the program, of which Check has to say yes: each is any that is free still, or none.
func (m maker) colours(t *testing.T, p api.Program) [][]int {
	clash, f := live.Clash(p)
	if f.Code != api.OK {
		t.Fatal(p, f)
	}
	var colours [][]int
	for thread := range p.Code {
		list := slices.Repeat([]int{-1}, p.Regs)
		for r := range list {
			c := m.below(api.FreeRegs+2) - 1
			if c == api.FreeRegs {
				c = 0
			}
			if !slices.ContainsFunc(clash[thread][r], func(other int) bool { return list[other] == c }) {
				list[r] = c
			}
		}
		colours = append(colours, list)
	}
	return colours
}

// O1 to O3: made-up programs and colours, some of which may not be.
func TestAgainstOracle(t *testing.T) {
	d := dice(5)
	yes, no, long := 0, 0, 0
	for i := range 8000 {
		m := maker{dice: &d, regs: 1 + d.below(12)}
		p := m.program(1+d.below(4), 2+i%20)
		if i%50 == 0 {
			m.regs = 60
			p = m.program(1+d.below(4), api.MaxCode)
		}
		colours := m.colours(t, p)
		if d.below(3) == 0 {
			colours[d.below(len(colours))][d.below(m.regs)] = d.below(9) - 2
		}
		want := mayBe(t, p, colours)
		if fits(t, p, colours) != want || !mayBe(t, p, found(t, p)) {
			t.Fatal(want, shown(t, p), colours)
		}
		if !want {
			no++
			if f := refusal(t, p, colours); f != (api.Fault{Code: api.ErrClash}) {
				t.Fatal(f, shown(t, p), colours)
			}
			continue
		}
		text, fault := appliedOf(t, p, colours)
		q, f := alloc.Apply(p, colours)
		if f != fault {
			t.Fatal(f, fault, shown(t, p), colours)
		}
		if f.Code != api.OK {
			long++
		} else if got, _ := asm.Text(q); got != text {
			t.Fatalf("%q %v: %q, want %q", shown(t, p), colours, got, text)
		} else {
			yes++
		}
	}
	if min(yes, 10*no, 100*long) < 3000 {
		t.Error("the programs say little:", yes, no, long)
	}
}
