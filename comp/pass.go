package comp

import (
	"sluice/alloc"
	"sluice/api"
	"sluice/opt"
)

// pass makes another program of one, of which the same can come, or tells why it cannot.
type pass struct {
	do func(p api.Program) (api.Program, api.Fault)
}

// passes are done one after the other. Registers come last: what is never done needs none.
func passes() []pass {
	return []pass{{opt.Const}, {opt.Dead}, {paint}}
}

// paint lets a program do with the registers of the machine.
func paint(p api.Program) (api.Program, api.Fault) {
	colours, f := alloc.Colours(p)
	if f.Code != api.OK {
		return api.Program{}, f
	}
	return alloc.Apply(p, colours)
}
