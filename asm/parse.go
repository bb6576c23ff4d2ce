package asm

import (
	"errors"
	"strconv"
	"strings"

	"sluice/api"
)

var errLine = errors.New("asm: a line that cannot be so")

const (
	headLines = 4 // words, locks, regs and the first thread
	maxDigits = 19
)

// Parse reads a program of such a text as Text tells.
func Parse(text string) (api.Program, api.Fault) {
	if len(text) > api.MaxText {
		return api.Program{}, api.Fault{Code: api.ErrSize}
	}
	p, at, err := readLines(text)
	if errors.Is(err, errLine) {
		return api.Program{}, api.Fault{Code: api.ErrSyntax, At: at}
	}
	if f := Check(p); f.Code != api.OK {
		return api.Program{}, f
	}
	return p, api.Fault{}
}

// readLines answers, with an error, the number of the first line that cannot be so.
func readLines(text string) (api.Program, int, error) {
	lines := strings.Split(text, "\n")
	// Behind the last line feed stands nothing, or a line without an end.
	last := len(lines) - 1
	r := reader{all: shapes()}
	r.ops = opsByName(r.all)
	for at, line := range lines[:last] {
		if err := r.readLine(at, line); err != nil {
			return api.Program{}, at, err
		}
	}
	if last < headLines || lines[last] != "" {
		return api.Program{}, last, errLine
	}
	return r.program, 0, nil
}

// reader has what the lines up to now say.
type reader struct {
	program api.Program
	all     map[int]shape
	ops     map[string]int
}

func (r *reader) readLine(at int, line string) error {
	name, nums, err := splitLine(line)
	if err != nil {
		return err
	}
	switch at {
	case 0:
		r.program.Words, err = many(name, "words", nums)
		return err
	case 1:
		r.program.Locks, err = single(name, "locks", nums)
		return err
	case 2:
		r.program.Regs, err = single(name, "regs", nums)
		return err
	}
	if name == "thread" && len(nums) == 0 {
		r.program.Code = append(r.program.Code, nil)
		return nil
	}
	return r.addOrder(name, nums)
}

func (r *reader) addOrder(name string, nums []int) error {
	thread := len(r.program.Code) - 1
	op, ok := r.ops[name]
	if thread < 0 || !ok || len(nums) != r.all[op].count() {
		return errLine
	}
	var n numbers
	copy(n[:], nums)
	r.program.Code[thread] = append(r.program.Code[thread], orderOf(op, n))
	return nil
}

// many answers the numbers of a line that has this name.
func many(name, want string, nums []int) ([]int, error) {
	if name != want {
		return nil, errLine
	}
	return nums, nil
}

// single answers the number of a line that has this name and just one.
func single(name, want string, nums []int) (int, error) {
	if name != want || len(nums) != 1 {
		return 0, errLine
	}
	return nums[0], nil
}

func splitLine(line string) (string, []int, error) {
	parts := strings.Split(line, " ")
	var nums []int
	for _, part := range parts[1:] {
		n, err := readNumber(part)
		if err != nil {
			return "", nil, err
		}
		nums = append(nums, n)
	}
	return parts[0], nums, nil
}

func readNumber(s string) (int, error) {
	digits := strings.TrimPrefix(s, "-")
	if !allDigits(digits) || digits[0] == '0' && s != "0" {
		return 0, errLine
	}
	n, err := strconv.Atoi(s)
	if err != nil {
		return 0, errLine
	}
	return n, nil
}

// allDigits tells whether these are digits, one at least and no more than a number may have.
func allDigits(s string) bool {
	for i := range len(s) {
		if s[i] < '0' || s[i] > '9' {
			return false
		}
	}
	return len(s) >= 1 && len(s) <= maxDigits
}
