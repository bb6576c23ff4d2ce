package asm_test

import (
	"math"
	"reflect"
	"slices"
	"strconv"
	"strings"
	"testing"

	"sluice/api"
	"sluice/asm"
)

// kinds of numbers, by the letters of the chapter's table; "" is a number that is not named.
type row struct {
	op    int
	name  string
	kinds [3]string
}

func table() []row {
	return []row{
		{1, "const", [3]string{"r", "n"}},
		{2, "move", [3]string{"r", "r"}},
		{3, "add", [3]string{"r", "r", "r"}},
		{4, "sub", [3]string{"r", "r", "r"}},
		{5, "mul", [3]string{"r", "r", "r"}},
		{6, "less", [3]string{"r", "r", "r"}},
		{7, "same", [3]string{"r", "r", "r"}},
		{8, "load", [3]string{"r", "w"}},
		{9, "store", [3]string{"w", "r"}},
		{10, "loadat", [3]string{"r", "r"}},
		{11, "storeat", [3]string{"r", "r"}},
		{12, "fence", [3]string{}},
		{13, "cas", [3]string{"w", "r", "r"}},
		{14, "jump", [3]string{"c"}},
		{15, "zero", [3]string{"r", "c"}},
		{16, "print", [3]string{"r"}},
		{17, "lock", [3]string{"l"}},
		{18, "unlock", [3]string{"l"}},
	}
}

const (
	tableRegs  = 5
	tableWords = 7
	tableLocks = 3
	tableCode  = 10
)

// greatest tells the greatest number that may be, in a program of withOrder.
func greatest(kind string) int {
	switch kind {
	case "r":
		return tableRegs - 1
	case "w":
		return tableWords - 1
	case "l":
		return tableLocks - 1
	case "c":
		return tableCode
	case "n":
		return math.MaxInt
	}
	return 0
}

// withOrder is a program whose thread 1 has this order at 4.
func withOrder(order api.Instr) api.Program {
	code := make([]api.Instr, tableCode)
	for i := range code {
		code[i].Op = api.OpFence
	}
	code[4] = order
	return api.Program{Code: [][]api.Instr{{}, code}, Words: make([]int, tableWords), Locks: tableLocks, Regs: tableRegs}
}

func instr(op int, n [3]int) api.Instr {
	return api.Instr{Op: op, A: n[0], B: n[1], C: n[2]}
}

func fences(n int) []api.Instr {
	return slices.Repeat([]api.Instr{{Op: api.OpFence}}, n)
}

func wantFault(t *testing.T, what any, got, want api.Fault) {
	t.Helper()
	if got != want {
		t.Errorf("%v: fault %v, want %v", what, got, want)
	}
}

// A1, A2: of each order each number, at the edges of what it has to be.
func TestNumbersOfOrders(t *testing.T) {
	bad := api.Fault{Code: api.ErrRange, Thread: 1, At: 4}
	for _, r := range table() {
		var most [3]int
		for i, k := range r.kinds {
			most[i] = greatest(k)
		}
		for _, n := range [][3]int{{}, most} {
			wantFault(t, r.name, asm.Check(withOrder(instr(r.op, n))), api.Fault{})
		}
		for i, k := range r.kinds {
			for _, x := range []int{most[i] + 1, -1, math.MaxInt, math.MinInt} {
				want := bad
				if k == "n" {
					want = api.Fault{}
				}
				n := most
				n[i] = x
				wantFault(t, []any{r.name, n}, asm.Check(withOrder(instr(r.op, n))), want)
				n = [3]int{}
				n[i] = x
				wantFault(t, []any{r.name, n}, asm.Check(withOrder(instr(r.op, n))), want)
			}
		}
	}
}

// A2: ErrKind, ahead of what the numbers are.
func TestNoSuchOrder(t *testing.T) {
	for _, op := range []int{0, 19, -1, 1 << 20, math.MaxInt, math.MinInt} {
		for _, a := range []int{0, -1} {
			wantFault(t, op, asm.Check(withOrder(api.Instr{Op: op, A: a})), api.Fault{Code: api.ErrKind, Thread: 1, At: 4})
		}
	}
}

// A2: how many of each there may be.
func TestCheckSizes(t *testing.T) {
	size, bound := api.Fault{Code: api.ErrSize}, api.Fault{Code: api.ErrRange}
	for _, x := range []struct {
		threads, words, locks, regs int
		want                        api.Fault
	}{
		{1, 0, 0, 1, api.Fault{}},
		{4, 64, 4, 200, api.Fault{}},
		{0, 0, 0, 1, size},
		{5, 0, 0, 1, size},
		{1, 65, 0, 1, size},
		{1, 0, -1, 1, bound},
		{1, 0, 5, 1, bound},
		{1, 0, math.MinInt, 1, bound},
		{1, 0, math.MaxInt, 1, bound},
		{1, 0, 0, 0, bound},
		{1, 0, 0, -1, bound},
		{1, 0, 0, 201, bound},
		{1, 0, 0, math.MinInt, bound},
		{1, 0, 0, math.MaxInt, bound},
		{0, 0, 5, 0, size},
		{1, 65, -1, 201, size},
	} {
		p := api.Program{Code: make([][]api.Instr, x.threads), Words: make([]int, x.words), Locks: x.locks, Regs: x.regs}
		wantFault(t, x, asm.Check(p), x.want)
	}
	wantFault(t, "nothing", asm.Check(api.Program{}), size)
}

// A2: sizes of the whole, then thread by thread, then order by order.
func TestCheckOrder(t *testing.T) {
	broken, far := api.Instr{Op: 99}, api.Instr{Op: api.OpPrint, A: 1}
	long := fences(api.MaxCode + 1)
	for _, x := range []struct {
		name string
		p    api.Program
		want api.Fault
	}{
		{"as many as may be", api.Program{Code: [][]api.Instr{fences(400)}, Regs: 1}, api.Fault{}},
		{"one more", api.Program{Code: [][]api.Instr{fences(401)}, Regs: 1}, api.Fault{Code: api.ErrSize}},
		{"second thread", api.Program{Code: [][]api.Instr{{}, long, {broken}}, Regs: 1}, api.Fault{Code: api.ErrSize, Thread: 1}},
		{"order of an earlier thread", api.Program{Code: [][]api.Instr{{far}, long}, Regs: 1}, api.Fault{Code: api.ErrRange}},
		{"size ahead of orders", api.Program{Code: [][]api.Instr{append(fences(400), broken)}, Regs: 1}, api.Fault{Code: api.ErrSize}},
		{"first order of two", api.Program{Code: [][]api.Instr{{}, {{Op: api.OpFence}, far, broken}}, Regs: 1}, api.Fault{Code: api.ErrRange, Thread: 1, At: 1}},
		{"last thread, last order", api.Program{Code: [][]api.Instr{{}, {}, {}, append(fences(399), broken)}, Regs: 1}, api.Fault{Code: api.ErrKind, Thread: 3, At: 399}},
		{"registers ahead of orders", api.Program{Code: [][]api.Instr{{broken}}}, api.Fault{Code: api.ErrRange}},
		{"threads ahead of all", api.Program{Code: [][]api.Instr{long, {}, {}, {}, {}}, Locks: 9}, api.Fault{Code: api.ErrSize}},
	} {
		wantFault(t, x.name, asm.Check(x.p), x.want)
	}
}

// A2: a jump tells an order of its own thread.
func TestJumpWithinThread(t *testing.T) {
	jump := func(to int) []api.Instr { return []api.Instr{{Op: api.OpJump, A: to}} }
	wantFault(t, "behind the last", asm.Check(api.Program{Code: [][]api.Instr{jump(1), fences(9)}, Regs: 1}), api.Fault{})
	wantFault(t, "of another thread", asm.Check(api.Program{Code: [][]api.Instr{jump(2), fences(9)}, Regs: 1}), api.Fault{Code: api.ErrRange})
}

func everything() (api.Program, string) {
	p := api.Program{
		Words: []int{0, -7, math.MaxInt, math.MinInt},
		Locks: 4,
		Regs:  200,
		Code: [][]api.Instr{
			{},
			{
				{Op: api.OpConst, A: 199, B: math.MinInt},
				{Op: api.OpConst, A: 0, B: math.MaxInt},
				{Op: api.OpMove, A: 1, B: 2},
				{Op: api.OpAdd, A: 1, B: 2, C: 3},
				{Op: api.OpSub, A: 4, B: 5, C: 6},
				{Op: api.OpMul, A: 7, B: 8, C: 9},
				{Op: api.OpLess, A: 10, B: 11, C: 12},
				{Op: api.OpSame, A: 13, B: 14, C: 15},
			},
			{
				{Op: api.OpLoad, A: 9, B: 3},
				{Op: api.OpStore, A: 3, B: 9},
				{Op: api.OpLoadAt, A: 8, B: 9},
				{Op: api.OpStoreAt, A: 9, B: 8},
				{Op: api.OpFence},
				{Op: api.OpCas, A: 2, B: 5, C: 6},
			},
			{
				{Op: api.OpJump, A: 5},
				{Op: api.OpZero, A: 150, B: 4},
				{Op: api.OpPrint, A: 100},
				{Op: api.OpLock, A: 3},
				{Op: api.OpUnlock, A: 2},
			},
		},
	}
	return p, `words 0 -7 9223372036854775807 -9223372036854775808
locks 4
regs 200
thread
thread
const 199 -9223372036854775808
const 0 9223372036854775807
move 1 2
add 1 2 3
sub 4 5 6
mul 7 8 9
less 10 11 12
same 13 14 15
thread
load 9 3
store 3 9
loadat 8 9
storeat 9 8
fence
cas 2 5 6
thread
jump 5
zero 150 4
print 100
lock 3
unlock 2
`
}

// same holds programs against each other; an empty list may be nil or not.
func same(a, b api.Program) bool {
	return a.Locks == b.Locks && a.Regs == b.Regs && slices.Equal(a.Words, b.Words) && slices.EqualFunc(a.Code, b.Code, slices.Equal)
}

// A3, A4: each order's line, both ways.
func TestTextAndParse(t *testing.T) {
	p, text := everything()
	small := api.Program{Code: [][]api.Instr{nil}, Regs: 1}
	example := api.Program{Code: [][]api.Instr{{{Op: api.OpConst, B: 5}, {Op: api.OpStore, A: 1}}}, Words: []int{0, 0}, Regs: 1}
	for _, x := range []struct {
		p    api.Program
		text string
	}{
		{p, text},
		{small, "words\nlocks 0\nregs 1\nthread\n"},
		{example, "words 0 0\nlocks 0\nregs 1\nthread\nconst 0 5\nstore 1 0\n"},
	} {
		s, f := asm.Text(x.p)
		wantFault(t, x.text, f, api.Fault{})
		if s != x.text {
			t.Errorf("Text: %q, want %q", s, x.text)
		}
		q, f := asm.Parse(x.text)
		wantFault(t, x.text, f, api.Fault{})
		if !same(x.p, q) {
			t.Errorf("Parse of %q: %v", x.text, q)
		}
	}
}

// A3: each order's name, with the greatest numbers that it may have.
func TestTextOfEachOrder(t *testing.T) {
	for _, r := range table() {
		var n [3]int
		for i, k := range r.kinds {
			n[i] = greatest(k)
		}
		p := withOrder(instr(r.op, n))
		s, f := asm.Text(p)
		wantFault(t, r.name, f, api.Fault{})
		line := r.name
		for _, x := range n[:count(r.kinds)] {
			line += " " + strconv.Itoa(x)
		}
		if got := strings.Split(s, "\n")[9]; got != line {
			t.Errorf("%s: line %q, want %q", r.name, got, line)
		}
		q, f := asm.Parse(s)
		wantFault(t, s, f, api.Fault{})
		if !same(p, q) {
			t.Errorf("%s: read as %v", r.name, q)
		}
	}
}

// A3: Check's fault, and no text with it.
func TestTextRefuses(t *testing.T) {
	for _, p := range []api.Program{
		{},
		{Code: [][]api.Instr{{}}},
		{Code: [][]api.Instr{fences(401)}, Regs: 1},
		{Code: [][]api.Instr{{}, {{Op: api.OpFence}, {Op: 19}}}, Regs: 1},
		{Code: [][]api.Instr{{{Op: api.OpFence, C: 1}}}, Regs: 1},
	} {
		s, f := asm.Text(p)
		if s != "" || f.Code == api.OK || f != asm.Check(p) {
			t.Errorf("%v: %q, %v", p, s, f)
		}
	}
}

// A3: a text may be longer than what Parse takes.
func TestLongText(t *testing.T) {
	s, f := asm.Text(api.Program{Code: [][]api.Instr{fences(400), fences(400)}, Regs: 1})
	wantFault(t, "long", f, api.Fault{})
	if len(s) != len("words\nlocks 0\nregs 1\n")+2*len("thread\n")+800*len("fence\n") {
		t.Error(len(s))
	}
	_, f = asm.Parse(s)
	wantFault(t, "long", f, api.Fault{Code: api.ErrSize})
}

// A4: lines that cannot be so, the first of them told.
func TestParseSyntax(t *testing.T) {
	const head = "words 1\nlocks 0\nregs 1\nthread\n"
	for _, x := range []struct {
		text string
		at   int
	}{
		{"", 0},
		{"\n", 0},
		{"words", 0},
		{"word\n", 0},
		{"Words\n", 0},
		{" words\n", 0},
		{"words \n", 0},
		{"words  1\n", 0},
		{"words\t1\n", 0},
		{"words 1 \n", 0},
		{"words 1\r\n", 0},
		{"words1\n", 0},
		{"locks 0\nwords\nregs 1\nthread\n", 0},
		{"words\n", 1},
		{"words\nlocks", 1},
		{"words\nlocks\n", 1},
		{"words\nlocks 0", 1},
		{"words\nlocks 0 0\n", 1},
		{"words\nregs 1\n", 1},
		{"words\n\nlocks 0\n", 1},
		{"words\nlocks 0\n", 2},
		{"words\nlocks 0\nregs\n", 2},
		{"words\nlocks 0\nregs 1 1\n", 2},
		{"words\nlocks 0\nlocks 0\n", 2},
		{"words\nlocks 0\nregs 1", 2},
		{"words\nlocks 0\nregs 1\n", 3},
		{"words\nlocks 0\nregs 1\nthread", 3},
		{"words\nlocks 0\nregs 1\nfence\n", 3},
		{"words\nlocks 0\nregs 1\nthread 0\n", 3},
		{"words\nlocks 0\nregs 1\nthread \n", 3},
		{"words\nlocks 0\nregs 1\n\nthread\n", 3},
		{head + "\n", 4},
		{head + " ", 4},
		{head + "fence", 4},
		{head + "thread", 4},
		{head + "thread 1\n", 4},
		{head + "fence\nthread\nprint 0\nprint 0", 7},
		{head + "words 1\n", 4},
		{head + "regs 1\n", 4},
		{head + "nothing\n", 4},
		{head + "FENCE\n", 4},
		{head + "fence 0\n", 4},
		{head + "const 0\n", 4},
		{head + "const 0 1 0\n", 4},
		{head + "const 0 x\n", 4},
		{head + "const 0  1\n", 4},
		{head + "const 0 1 \n", 4},
		{head + "add 0 0\n", 4},
		{head + "add 0 0 0 0\n", 4},
		{head + "print\n", 4},
		{head + "jump\n", 4},
		{head + "\x00\n", 4},
		{head + "fence\xff\n", 4},
		{head + "print 0\nprint 7\nprint 00\nfence 1\n", 6},
	} {
		p, f := asm.Parse(x.text)
		wantFault(t, x.text, f, api.Fault{Code: api.ErrSyntax, At: x.at})
		if !reflect.ValueOf(p).IsZero() {
			t.Errorf("%q: %v beside a fault", x.text, p)
		}
	}
}

// A4: every number of an order's line has to be there, and no more.
func TestParseCounts(t *testing.T) {
	for _, r := range table() {
		for n := range 5 {
			want := api.Fault{Code: api.ErrSyntax, At: 4}
			if n == count(r.kinds) {
				want = api.Fault{}
			}
			text := "words 1\nlocks 1\nregs 1\nthread\n" + r.name + strings.Repeat(" 0", n) + "\n"
			_, f := asm.Parse(text)
			wantFault(t, text, f, want)
		}
	}
}

func count(kinds [3]string) int {
	n := 0
	for _, k := range kinds {
		if k != "" {
			n++
		}
	}
	return n
}

// A4: the form of numbers.
func TestParseNumbers(t *testing.T) {
	for _, s := range []string{
		"", "-", "+", "+1", "--1", "-0", "00", "01", "-01", "1-", "1.0", "0x1", "1_0", "1e3", "a", "٣",
		"9223372036854775808", "-9223372036854775809", "9999999999999999999", "10000000000000000000",
		"00000000000000000001", "18446744073709551616", "-18446744073709551616", strings.Repeat("9", 300),
	} {
		for _, text := range []string{"words " + s + "\n", "words 0 " + s + " 0\n"} {
			_, f := asm.Parse(text + "locks 0\nregs 1\nthread\n")
			wantFault(t, text, f, api.Fault{Code: api.ErrSyntax})
		}
	}
	for s, n := range map[string]int{
		"0": 0, "1": 1, "-1": -1, "10": 10, "-90": -90,
		"999999999999999999": 999999999999999999, "1000000000000000000": 1000000000000000000,
		"9223372036854775807": math.MaxInt, "-9223372036854775808": math.MinInt,
	} {
		p, f := asm.Parse("words " + s + "\nlocks 0\nregs 1\nthread\nconst 0 " + s + "\n")
		wantFault(t, s, f, api.Fault{})
		if f.Code == api.OK && (p.Words[0] != n || p.Code[0][0] != api.Instr{Op: api.OpConst, B: n}) {
			t.Errorf("%s: %v", s, p)
		}
	}
}

// A4: MaxText bytes, ahead of all else.
func TestParseLength(t *testing.T) {
	text := "words\nlocks 0\nregs 1\nthread\n"
	text += strings.Repeat("fence\n", 398)
	text += strings.Repeat("thread\n", 2)
	for len(text)+len("const 0 0\n") <= api.MaxText {
		text += "const 0 0\n"
	}
	last := strings.LastIndex(text, "0\n")
	full := text[:last] + "1" + strings.Repeat("0", api.MaxText-len(text)) + "\n"
	if len(full) != api.MaxText {
		t.Fatal(len(full))
	}
	_, f := asm.Parse(full)
	wantFault(t, "full", f, api.Fault{})
	_, f = asm.Parse(full + "\n")
	wantFault(t, "one more", f, api.Fault{Code: api.ErrSize})
	_, f = asm.Parse(strings.Repeat("x", api.MaxText))
	wantFault(t, "as long, wrong", f, api.Fault{Code: api.ErrSyntax})
	_, f = asm.Parse(strings.Repeat("x", api.MaxText+1))
	wantFault(t, "too long, wrong", f, api.Fault{Code: api.ErrSize})
}

// A4: Check's fault behind all of the text's form.
func TestParseThenCheck(t *testing.T) {
	for _, x := range []struct {
		text string
		want api.Fault
	}{
		{"words" + strings.Repeat(" 0", 64) + "\nlocks 4\nregs 200\nthread\n", api.Fault{}},
		{"words" + strings.Repeat(" 0", 65) + "\nlocks 9\nregs 200\nthread\n", api.Fault{Code: api.ErrSize}},
		{"words\nlocks 0\nregs 1\n" + strings.Repeat("thread\n", 4), api.Fault{}},
		{"words\nlocks 0\nregs 1\n" + strings.Repeat("thread\n", 5), api.Fault{Code: api.ErrSize}},
		{"words\nlocks 5\nregs 1\nthread\n", api.Fault{Code: api.ErrRange}},
		{"words\nlocks -1\nregs 1\nthread\n", api.Fault{Code: api.ErrRange}},
		{"words\nlocks 0\nregs 0\nthread\n", api.Fault{Code: api.ErrRange}},
		{"words\nlocks 0\nregs 201\nthread\n", api.Fault{Code: api.ErrRange}},
		{"words\nlocks 0\nregs 1\nthread\n" + strings.Repeat("fence\n", 400), api.Fault{}},
		{"words\nlocks 0\nregs 1\nthread\nthread\n" + strings.Repeat("fence\n", 401), api.Fault{Code: api.ErrSize, Thread: 1}},
		{"words\nlocks 0\nregs 1\nthread\nfence\nthread\nfence\nload 0 0\n", api.Fault{Code: api.ErrRange, Thread: 1, At: 1}},
		{"words\nlocks 0\nregs 1\nthread\nprint -1\n", api.Fault{Code: api.ErrRange}},
		{"words\nlocks 0\nregs 1\nthread\njump 2\n", api.Fault{Code: api.ErrRange}},
		{"words\nlocks 9\nregs 0\nthread\nprint 7\nfence", api.Fault{Code: api.ErrSyntax, At: 5}},
	} {
		p, f := asm.Parse(x.text)
		wantFault(t, x.text, f, x.want)
		if f.Code != api.OK && !reflect.ValueOf(p).IsZero() {
			t.Errorf("%q: %v beside a fault", x.text, p)
		}
	}
}

// A4: what is read is told as the same text: there is one form of each program alone.
func TestOneForm(t *testing.T) {
	_, text := everything()
	for at := range len(text) {
		for b := range 256 {
			tryForm(t, text[:at]+string([]byte{byte(b)})+text[at+1:])
		}
		tryForm(t, text[:at])
		tryForm(t, text[:at]+text[at+1:])
		for _, s := range []string{" ", "\n", "0", "-", "1", "fence\n", "thread\n"} {
			tryForm(t, text[:at]+s+text[at:])
		}
	}
}

func tryForm(t *testing.T, text string) {
	t.Helper()
	p, f := asm.Parse(text)
	if f.Code != api.OK {
		return
	}
	if s, g := asm.Text(p); g != (api.Fault{}) || s != text {
		t.Errorf("%q is read, but told as %q, %v", text, s, g)
	}
}

// P3: what is handed in stays as it is, also behind the lists' lengths.
func TestNothingIsChanged(t *testing.T) {
	build := func() api.Program {
		p, _ := everything()
		p.Words = append(p.Words, 77)[:4]
		p.Code[1] = append(p.Code[1], api.Instr{Op: 99})[:8]
		p.Code = append(p.Code, []api.Instr{{Op: 99}})[:4]
		return p
	}
	p, q := build(), build()
	wantFault(t, "Check", asm.Check(p), api.Fault{})
	_, f := asm.Text(p)
	wantFault(t, "Text", f, api.Fault{})
	if !reflect.DeepEqual(p.Words[:5], q.Words[:5]) || !reflect.DeepEqual(p.Code[:5], q.Code[:5]) || !reflect.DeepEqual(p.Code[1][:9], q.Code[1][:9]) {
		t.Error(p)
	}
}

// P3: no two lists of an answer share memory, nor two answers.
func TestNothingIsShared(t *testing.T) {
	want, text := everything()
	p, _ := asm.Parse(text)
	q, _ := asm.Parse(text)
	for i := range p.Code {
		p.Code[i] = append(p.Code[i], fences(3)...)
		for j := range want.Code {
			if j > i && !slices.Equal(p.Code[j], want.Code[j]) {
				t.Error(i, j, p.Code[j])
			}
		}
	}
	p.Words[0] = 5
	if !same(q, want) {
		t.Error(q)
	}
}

// Rewrite: what an order becomes may be any number of orders; places are led to the first of them, or to what comes next.
func TestRewrite(t *testing.T) {
	p := api.Program{Words: []int{3, 4}, Locks: 2, Regs: 3, Code: [][]api.Instr{
		{{Op: api.OpJump, A: 4}, {Op: api.OpPrint, A: 1}, {Op: api.OpLock, A: 1}, {Op: api.OpPrint, A: 2}},
		{},
		{{Op: api.OpZero, A: 1, B: 1}, {Op: api.OpFence}, {Op: api.OpJump, A: 2}, {Op: api.OpZero, A: 2, B: 3}},
	}}
	q := asm.Rewrite(p, func(thread, at int) []api.Instr {
		order := p.Code[thread][at]
		switch order.Op {
		case api.OpFence:
			return nil
		case api.OpLock:
			return []api.Instr{{Op: api.OpConst, B: 1}, {Op: api.OpZero, A: 1, B: at}, {Op: api.OpJump, A: at + 1}}
		case api.OpZero:
			return []api.Instr{{Op: api.OpPrint, A: thread}, order}
		}
		return []api.Instr{order}
	})
	want := api.Program{Words: []int{3, 4}, Locks: 2, Regs: 3, Code: [][]api.Instr{
		{{Op: api.OpJump, A: 6}, {Op: api.OpPrint, A: 1}, {Op: api.OpConst, B: 1}, {Op: api.OpZero, A: 1, B: 2}, {Op: api.OpJump, A: 5}, {Op: api.OpPrint, A: 2}},
		nil,
		{{Op: api.OpPrint, A: 2}, {Op: api.OpZero, A: 1, B: 2}, {Op: api.OpJump, A: 2}, {Op: api.OpPrint, A: 2}, {Op: api.OpZero, A: 2, B: 3}},
	}}
	if !reflect.DeepEqual(q, want) {
		t.Errorf("%v, want %v", q, want)
	}
}

// Next: where a thread can go on, of each order.
func TestNext(t *testing.T) {
	for _, r := range table() {
		want := []int{5}
		switch r.op {
		case api.OpJump:
			want = []int{7}
		case api.OpZero:
			want = []int{5, 8}
		}
		if got := asm.Next(instr(r.op, [3]int{7, 8, 9}), 4); !slices.Equal(got, want) {
			t.Error(r.name, got, want)
		}
	}
}

// Regs looks at the numbers of each order that are registers, and at no others; of any thread.
func TestRegs(t *testing.T) {
	for _, x := range table() {
		for i := range 3 {
			var n [3]int
			n[i] = 7
			want := 1
			if x.kinds[i] == "r" {
				want = 8
			}
			code := []api.Instr{{Op: api.OpFence}, instr(x.op, n), {Op: api.OpPrint}}
			for _, threads := range [][][]api.Instr{{code}, {nil, code}, {code, {{Op: api.OpFence}}}} {
				if got := asm.Regs(threads); got != want {
					t.Errorf("%s %v: %d, want %d", x.name, n, got, want)
				}
			}
		}
	}
	greatest := []api.Instr{{Op: api.OpAdd, A: 3, B: 9, C: 4}, {Op: api.OpConst, A: 2, B: 50}, {Op: api.OpCas, A: 60, B: 5, C: 6}}
	if got := asm.Regs([][]api.Instr{greatest, {{Op: api.OpPrint, A: 8}}}); got != 10 {
		t.Error(got)
	}
	if got := asm.Regs(nil); got != 1 {
		t.Error(got)
	}
}
