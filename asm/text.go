package asm

import (
	"strconv"
	"strings"

	"sluice/api"
)

// Text tells a program in lines.
func Text(p api.Program) (string, api.Fault) {
	if f := Check(p); f.Code != api.OK {
		return "", f
	}
	var b strings.Builder
	writeLine(&b, "words", p.Words)
	writeLine(&b, "locks", []int{p.Locks})
	writeLine(&b, "regs", []int{p.Regs})
	all := shapes()
	for _, code := range p.Code {
		writeLine(&b, "thread", nil)
		for _, order := range code {
			s, n := all[order.Op], numbersOf(order)
			writeLine(&b, s.name, n[:s.count()])
		}
	}
	return b.String(), api.Fault{}
}

func writeLine(b *strings.Builder, name string, nums []int) {
	b.WriteString(name)
	for _, n := range nums {
		b.WriteByte(' ')
		b.WriteString(strconv.Itoa(n))
	}
	b.WriteByte('\n')
}
