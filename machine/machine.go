// Package machine plays the code of step programs.
package machine

import (
	"relay/api"
	"relay/reckon"
)

// Step: what code is given to make a step of: the step's number, what the cells hold, an element of each input, and a value of each link.
type Step struct {
	N     int
	Cells []int
	Ins   []int
	Links []int
}

// Exec makes a step of code: it answers the registers that Out names, and those that Next names.
func Exec(c api.Code, s Step) ([]int, []int, api.Errno) {
	if !formed(c) {
		return nil, nil, api.ErrCode
	}
	if s.N < 0 || len(s.Cells) != len(c.Cells) {
		return nil, nil, api.ErrArg
	}
	registers := make([]int, len(c.Ops))
	for i, o := range c.Ops {
		registers[i] = value(o, s, registers)
	}
	out := pick(registers, c.Out)
	next := pick(registers, c.Next)
	return out, next, api.OK
}

// value works an operation out. The registers that it names, and the cell, are there: the code is well formed.
func value(o api.Op, s Step, registers []int) int {
	switch o.Kind {
	case api.Const:
		return o.A
	case api.In:
		return element(s.Ins, o.A)
	case api.Link:
		return element(s.Links, o.A)
	case api.Cell:
		return s.Cells[o.A]
	case api.First:
		return reckon.Not(s.N)
	case api.Not:
		return reckon.Not(registers[o.A])
	case api.Choose:
		return reckon.Choose(registers[o.A], registers[o.B], registers[o.C])
	}
	return reckon.Pair(o.Kind, registers[o.A], registers[o.B])
}

func element(list []int, number int) int {
	if !below(number, len(list)) {
		return 0
	}
	return list[number]
}

func pick(registers []int, named []int) []int {
	list := make([]int, len(named))
	for i, register := range named {
		list[i] = registers[register]
	}
	return list
}
