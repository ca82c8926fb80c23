package machine

import (
	"slices"
	"testing"

	"relay/api"
)

// all: an operation of each kind, number i of kind i, and none of them reads what is not there.
func all() api.Code {
	c := api.Code{Cells: []int{0, 0}, Next: []int{5, 6}}
	for kind := api.Const; kind <= api.Choose; kind++ {
		c.Ops = append(c.Ops, api.Op{Kind: kind, A: 1, B: 2, C: 3})
		c.Out = append(c.Out, kind)
	}
	return c
}

func TestExecOfEachKind(t *testing.T) {
	for _, c := range []struct {
		s   Step
		out []int
	}{
		{Step{0, []int{4, 5}, []int{6, 7}, []int{8, 2}}, []int{1, 7, 2, 5, 1, 9, 5, 14, 3, 0, 0, 1, 1, 0, 2}},
		{Step{3, []int{4, 5}, nil, []int{8, 2}}, []int{1, 0, 2, 5, 0, 2, -2, 0, 0, 1, 0, 0, 1, 1, 5}},
		{Step{3, []int{4, 5}, []int{6}, []int{8}}, []int{1, 0, 0, 5, 0, 0, 0, 0, 0, 0, 1, 0, 0, 1, 5}},
	} {
		out, next, e := Exec(all(), c.s)
		if e != api.OK || !slices.Equal(out, c.out) || !slices.Equal(next, out[5:7]) {
			t.Errorf("Exec at %+v = %v, %v, %d, want %v", c.s, out, next, e, c.out)
		}
	}
}

func TestExecErrors(t *testing.T) {
	for _, c := range []struct {
		spare int // an entry of Out
		s     Step
		want  api.Errno
	}{
		{0, Step{N: 0, Cells: []int{1, 2}}, api.OK}, {0, Step{N: -1, Cells: []int{1, 2}}, api.ErrArg}, {0, Step{Cells: []int{1}}, api.ErrArg}, {0, Step{Cells: []int{1, 2, 3}}, api.ErrArg},
		{15, Step{N: -1}, api.ErrCode}, {-1, Step{Cells: []int{1, 2}}, api.ErrCode},
	} {
		code := all()
		code.Out[0] = c.spare
		out, next, e := Exec(code, c.s)
		if e != c.want || e != api.OK && len(out)+len(next) != 0 {
			t.Errorf("Exec with %d in Out at %+v = %v, %v, %d, want %d", c.spare, c.s, out, next, e, c.want)
		}
	}
}

func TestOpFormed(t *testing.T) {
	for _, c := range []struct {
		o             api.Op
		number, cells int
		want          bool
	}{
		{api.Op{Kind: -1}, 9, 9, false}, {api.Op{Kind: 15}, 9, 9, false},
		{api.Op{Kind: api.Const, A: -7, B: -1, C: 99}, 0, 0, true}, {api.Op{Kind: api.In, A: -7, B: -1, C: 99}, 0, 0, true}, {api.Op{Kind: api.Link, A: -7, B: -1, C: 99}, 0, 0, true}, {api.Op{Kind: api.First, A: -7, B: -1, C: 99}, 0, 0, true},
		{api.Op{Kind: api.Cell, A: 1, B: -1, C: 99}, 0, 2, true}, {api.Op{Kind: api.Cell, A: 2}, 9, 2, false}, {api.Op{Kind: api.Cell, A: -1}, 9, 2, false},
		{api.Op{Kind: api.Add, A: 1, B: 0, C: 99}, 2, 0, true}, {api.Op{Kind: api.Or, A: 2, B: 0}, 2, 9, false}, {api.Op{Kind: api.Or, A: 0, B: 2}, 2, 9, false}, {api.Op{Kind: api.Div, A: -1, B: 0}, 2, 9, false}, {api.Op{Kind: api.Div, A: 0, B: -1}, 2, 9, false},
		{api.Op{Kind: api.Not, A: 1, B: -1, C: 99}, 2, 0, true}, {api.Op{Kind: api.Not, A: 2}, 2, 9, false}, {api.Op{Kind: api.Not, A: -1}, 2, 9, false},
		{api.Op{Kind: api.Choose, A: 0, B: 1, C: 1}, 2, 0, true}, {api.Op{Kind: api.Choose, A: 2}, 2, 9, false}, {api.Op{Kind: api.Choose, B: 2}, 2, 9, false}, {api.Op{Kind: api.Choose, C: 2}, 2, 9, false}, {api.Op{Kind: api.Choose, C: -1}, 2, 9, false},
	} {
		if got := opFormed(c.o, c.number, c.cells); got != c.want {
			t.Errorf("operation %d, %+v, with %d cells: %v", c.number, c.o, c.cells, got)
		}
	}
}
