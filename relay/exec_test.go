package relay

import (
	"fmt"
	"math/big"
	"math/rand"
	"slices"
	"testing"

	"relay/api"
)

func testExec(t *testing.T, c api.Code, n int, cells, ins, links, out, next []int) {
	t.Helper()
	gotOut, gotNext, e := Exec(c, n, cells, ins, links)
	if e != api.OK || !slices.Equal(gotOut, out) || !slices.Equal(gotNext, next) {
		t.Errorf("P7: Exec(%v, %d, %v, %v, %v) = %v, %v, %d, want %v, %v", c, n, cells, ins, links, gotOut, gotNext, e, out, next)
	}
}

func testExecError(t *testing.T, want api.Errno, c api.Code, n int, cells []int) {
	t.Helper()
	out, next, e := Exec(c, n, cells, []int{1, 2}, []int{3, 4})
	if e != want || len(out) != 0 || len(next) != 0 {
		t.Errorf("P7: Exec of %s at %d with %d cells: %v, %v, %d, want nothing and %d", described(c), n, len(cells), out, next, e, want)
	}
}

// testFormed tests whether code is taken as well formed, whatever it answers.
func testFormed(t *testing.T, want bool, c api.Code) {
	t.Helper()
	if !want {
		testExecError(t, api.ErrCode, c, 0, make([]int, len(c.Cells)))
		return
	}
	out, next, e := Exec(c, 0, make([]int, len(c.Cells)), nil, nil)
	if e != api.OK || len(out) != len(c.Out) || len(next) != len(c.Next) {
		t.Errorf("P7: Exec of %s: %d and %d entries, %d, want what Out and Next name", described(c), len(out), len(next), e)
	}
}

func described(c api.Code) string {
	return fmt.Sprintf("%d operations, %d cells, %d in Next, %d in Out: %.300s", len(c.Ops), len(c.Cells), len(c.Next), len(c.Out), fmt.Sprint(c))
}

func constants(values ...int) []api.Op {
	var ops []api.Op
	for _, v := range values {
		ops = append(ops, api.Op{Kind: api.Const, A: v})
	}
	return ops
}

// fields: what A, B and C of each kind are: r a register, c the number of a cell, v another number, - not looked at.
var fields = []string{
	api.Const: "v--", api.In: "v--", api.Link: "v--", api.Cell: "c--", api.First: "---",
	api.Add: "rr-", api.Sub: "rr-", api.Mul: "rr-", api.Div: "rr-", api.Less: "rr-", api.Same: "rr-", api.And: "rr-", api.Or: "rr-",
	api.Not: "r--", api.Choose: "rrr",
}

// with: the operation with another number in a field.
func with(o api.Op, field, value int) api.Op {
	*[]*int{&o.A, &o.B, &o.C}[field] = value
	return o
}

// edges: numbers about 0, about the limits, and the outermost.
var edges = []int{least, least + 1, -1 << 32, -1501, -2, -1, 0, 1, 2, 3, 4, 5, 14, 15, 1499, 1500, 1501, 1 << 32, most - 1, most}

func TestExecOfExamples(t *testing.T) {
	c := api.Code{Ops: []api.Op{{Kind: api.Const, A: 5}, {Kind: api.In, A: 0}, {Kind: api.Add, A: 0, B: 1}}, Out: []int{2, 0}}
	testExec(t, c, 0, nil, []int{3}, nil, []int{8, 5}, nil)
}

func TestExecOfNoOperations(t *testing.T) {
	for _, n := range []int{0, 1, most} {
		testExec(t, api.Code{}, n, nil, []int{1}, []int{2}, nil, nil)
		testExec(t, api.Code{Ops: []api.Op{}, Cells: []int{}, Next: []int{}, Out: []int{}}, n, []int{}, nil, nil, nil, nil)
	}
	testFormed(t, false, api.Code{Out: []int{0}})
	testFormed(t, false, api.Code{Cells: []int{1}, Next: []int{0}})
}

func TestExecOfPairs(t *testing.T) {
	for _, c := range []struct{ kind, a, b, want int }{
		{api.Add, 2, 3, 5}, {api.Add, most, 1, least}, {api.Add, least, -1, most}, {api.Add, least, least, 0},
		{api.Sub, 2, 3, -1}, {api.Sub, least, 1, most}, {api.Sub, most, -1, least}, {api.Sub, 0, least, least},
		{api.Mul, -4, 3, -12}, {api.Mul, most, 2, -2}, {api.Mul, least, -1, least}, {api.Mul, 1 << 32, 1 << 32, 0},
		{api.Div, 7, 2, 3}, {api.Div, -7, 2, -3}, {api.Div, 7, -2, -3}, {api.Div, -7, -2, 3}, {api.Div, 7, 0, 0}, {api.Div, 0, 0, 0}, {api.Div, least, 0, 0},
		{api.Div, least, -1, least}, {api.Div, least, 1, least}, {api.Div, most, -1, -most}, {api.Div, most, least, 0}, {api.Div, least, least, 1},
		{api.Less, 1, 2, 1}, {api.Less, 2, 2, 0}, {api.Less, 3, 2, 0}, {api.Less, least, most, 1}, {api.Less, most, least, 0},
		{api.Same, 2, 2, 1}, {api.Same, 2, 3, 0}, {api.Same, least, least, 1}, {api.Same, least, most, 0},
		{api.And, 0, 0, 0}, {api.And, 0, 1, 0}, {api.And, 1, 0, 0}, {api.And, 1, 1, 1}, {api.And, 2, 4, 1}, {api.And, -1, least, 1},
		{api.Or, 0, 0, 0}, {api.Or, 0, 1, 1}, {api.Or, 1, 0, 1}, {api.Or, 1, 1, 1}, {api.Or, 2, 4, 1}, {api.Or, 0, least, 1},
	} {
		ops := append(constants(c.a, c.b), api.Op{Kind: c.kind, A: 0, B: 1}, api.Op{Kind: c.kind, A: 1, B: 0}, api.Op{Kind: c.kind, A: 1, B: 1})
		testExec(t, api.Code{Ops: ops, Out: []int{2}}, 0, nil, nil, nil, []int{c.want}, nil)
	}
}

func TestExecOfNotAndChoose(t *testing.T) {
	for _, c := range []struct{ a, not, chosen int }{{0, 1, 6}, {1, 0, 5}, {2, 0, 5}, {-1, 0, 5}, {least, 0, 5}, {most, 0, 5}} {
		ops := append(constants(c.a, 5, 6), api.Op{Kind: api.Not, A: 0}, api.Op{Kind: api.Choose, A: 0, B: 1, C: 2})
		testExec(t, api.Code{Ops: ops, Out: []int{3, 4}}, 3, nil, nil, nil, []int{c.not, c.chosen}, nil)
	}
}

func TestExecOfConstants(t *testing.T) {
	for _, v := range edges {
		testExec(t, api.Code{Ops: constants(v), Out: []int{0}}, 0, nil, nil, nil, []int{v}, nil)
	}
}

func TestExecOfFirst(t *testing.T) {
	c := api.Code{Ops: []api.Op{{Kind: api.First}}, Out: []int{0}}
	testExec(t, c, 0, nil, nil, nil, []int{1}, nil)
	for _, n := range []int{1, 2, 1 << 32, most} {
		testExec(t, c, n, nil, nil, nil, []int{0}, nil)
	}
}

// The lists of inputs and links may be of any length: what is not there is 0, what is too much is not looked at.
func TestExecOfInputsAndLinks(t *testing.T) {
	all := []int{11, 12, 13, 14}
	for _, a := range edges {
		for size := range 4 {
			want := 0
			if a >= 0 && a < size {
				want = all[a]
			}
			list := all[:size] // the spare room behind it is no part of it
			in := api.Code{Ops: []api.Op{{Kind: api.In, A: a}}, Out: []int{0}}
			link := api.Code{Ops: []api.Op{{Kind: api.Link, A: a}}, Out: []int{0}}
			testExec(t, in, 0, nil, list, []int{-1, -2, -3}, []int{want}, nil)
			testExec(t, link, 0, nil, []int{-1, -2, -3}, list, []int{want}, nil)
			testExec(t, in, 0, nil, list, nil, []int{want}, nil)
			testExec(t, link, 0, nil, nil, list, []int{want}, nil)
		}
	}
}

// What c's Cells hold does not matter, but how many they are.
func TestExecOfCells(t *testing.T) {
	for _, first := range [][]int{{0, 0, 0}, {7, 8, 9}, {least, most, -1}} {
		c := api.Code{Ops: []api.Op{{Kind: api.Cell, A: 2}, {Kind: api.Cell, A: 0}, {Kind: api.Cell, A: 1}, {Kind: api.Sub, A: 0, B: 1}}, Cells: first, Next: []int{3, 3, 0}, Out: []int{0, 1, 2}}
		testExec(t, c, 0, []int{1, 2, 5}, nil, nil, []int{5, 1, 2}, []int{4, 4, 5})
		testExec(t, c, 9, []int{4, most, least}, nil, nil, []int{least, 4, most}, []int{most - 3, most - 3, least})
		for _, cells := range [][]int{nil, {}, {1}, {1, 2}, {1, 2, 3, 4}, make([]int, 1500)} {
			testExecError(t, api.ErrArg, c, 0, cells)
		}
	}
	none := api.Code{Ops: constants(1), Out: []int{0}}
	testExecError(t, api.ErrArg, none, 0, []int{1})
	testExec(t, none, 0, []int{}, nil, nil, []int{1}, nil)
}

// A step with no number.
func TestExecBelowTheFirstStep(t *testing.T) {
	for _, n := range []int{-1, -2, -1 << 32, least} {
		testExecError(t, api.ErrArg, api.Code{}, n, nil)
		testExecError(t, api.ErrArg, api.Code{Ops: constants(1), Out: []int{0}}, n, nil)
		testExecError(t, api.ErrArg, api.Code{Ops: constants(1), Cells: []int{1}, Next: []int{0}}, n, []int{1})
		testExecError(t, api.ErrArg, api.Code{Ops: constants(1), Cells: []int{1}, Next: []int{0}}, n, nil)
	}
}

// Code that is not well formed is told of ahead of what is wrong with the rest.
func TestExecTellsOfCodeFirst(t *testing.T) {
	for _, c := range []api.Code{{Out: []int{0}}, {Ops: []api.Op{{Kind: 15}}}, {Ops: constants(1), Cells: []int{1}}, {Ops: make([]api.Op, 1501)}} {
		for _, cells := range [][]int{nil, {1}, {1, 2}} {
			testExecError(t, api.ErrCode, c, -1, cells)
			testExecError(t, api.ErrCode, c, 0, cells)
		}
	}
}

func TestExecCounts(t *testing.T) {
	for _, c := range []struct {
		ops, cells, next, out int
		want                  bool
	}{
		{1499, 0, 0, 0, true}, {1500, 0, 0, 0, true}, {1501, 0, 0, 0, false}, {1 << 20, 0, 0, 0, false},
		{1, 0, 0, 1499, true}, {1, 0, 0, 1500, true}, {1, 0, 0, 1501, false}, {1, 0, 0, 1 << 20, false},
		{1, 1499, 1499, 0, true}, {1, 1500, 1500, 0, true}, {1, 1501, 1501, 0, false}, {1, 1 << 20, 1 << 20, 0, false},
		{1, 1, 0, 0, false}, {1, 0, 1, 0, false}, {1, 1, 1, 0, true}, {1, 2, 1, 0, false}, {1, 1, 2, 0, false}, {1, 2, 2, 0, true},
		{1, 1500, 1499, 0, false}, {1, 1499, 1500, 0, false}, {1, 1501, 1500, 0, false}, {1, 1500, 1501, 0, false}, {1, 1 << 20, 0, 0, false},
		{1500, 1500, 1500, 1500, true}, {1501, 1500, 1500, 1500, false}, {1500, 1501, 1501, 1500, false}, {1500, 1500, 1500, 1501, false},
	} {
		testFormed(t, c.want, api.Code{Ops: make([]api.Op, c.ops), Cells: make([]int, c.cells), Next: make([]int, c.next), Out: make([]int, c.out)})
	}
}

func TestExecKinds(t *testing.T) {
	for kind := -3; kind <= 18; kind++ {
		ops := append(constants(1), api.Op{Kind: kind})
		testFormed(t, kind >= 0 && kind <= 14, api.Code{Ops: ops, Cells: []int{1}, Next: []int{0}, Out: []int{1}})
	}
	for _, kind := range []int{least, -1 << 32, 1 << 32, 1<<32 + 5, most} {
		testFormed(t, false, api.Code{Ops: append(constants(1), api.Op{Kind: kind})})
	}
}

// Each field of each kind, at the edges of what may stand in it. Where it is not looked at, every number makes the same.
func TestExecFields(t *testing.T) {
	for kind := range fields {
		for field := range 3 {
			for _, v := range edges {
				ops := append(constants(4, 5, 6), with(api.Op{Kind: kind}, field, v))
				c := api.Code{Ops: append(ops, constants(7)...), Cells: []int{1, 2}, Next: []int{3, 3}, Out: []int{3}}
				switch fields[kind][field] {
				case 'r':
					testFormed(t, v >= 0 && v < 3, c)
				case 'c':
					testFormed(t, v >= 0 && v < 2, c)
				case 'v':
					testFormed(t, true, c)
				default:
					same := c
					same.Ops = slices.Clone(c.Ops)
					same.Ops[3] = api.Op{Kind: kind}
					want, _, _ := Exec(same, 0, []int{8, 9}, []int{10}, []int{11})
					testExec(t, c, 0, []int{8, 9}, []int{10}, []int{11}, want, []int{want[0], want[0]})
				}
			}
		}
	}
}

// The first operation has no register to read, the last one all the others.
func TestExecRegistersAheadOnly(t *testing.T) {
	for kind := range fields {
		reads := fields[kind][0] == 'r'
		testFormed(t, !reads, api.Code{Ops: []api.Op{{Kind: kind}}, Cells: []int{1}, Next: []int{0}})
		ops := append(make([]api.Op, 1499), api.Op{Kind: kind, A: 1498, B: 1498, C: 1498})
		testFormed(t, kind != api.Cell, api.Code{Ops: ops, Cells: []int{1}, Next: []int{0}})
		ops[1499] = with(ops[1499], 0, 1499)
		testFormed(t, !reads && kind != api.Cell, api.Code{Ops: ops, Cells: []int{1}, Next: []int{0}})
	}
}

func TestExecNumbersOfCells(t *testing.T) {
	for count := range 4 {
		for _, a := range edges {
			c := api.Code{Ops: []api.Op{{Kind: api.Cell, A: a}}, Cells: make([]int, count), Next: make([]int, count), Out: []int{0}}
			testFormed(t, a >= 0 && a < count, c)
		}
	}
	for _, a := range edges {
		c := api.Code{Ops: []api.Op{{Kind: api.Cell, A: a}}, Cells: make([]int, 1500), Next: make([]int, 1500)}
		testFormed(t, a >= 0 && a < 1500, c)
	}
}

// Each entry of Next and Out, the first, one in between and the last.
func TestExecNextAndOut(t *testing.T) {
	for at := range 3 {
		for _, entry := range edges {
			named := make([]int, 3)
			named[at] = entry
			fits := entry >= 0 && entry < 4
			testFormed(t, fits, api.Code{Ops: constants(1, 2, 3, 4), Out: named})
			testFormed(t, fits, api.Code{Ops: constants(1, 2, 3, 4), Cells: make([]int, 3), Next: named})
			testFormed(t, fits, api.Code{Ops: constants(1, 2, 3, 4), Cells: make([]int, 3), Next: named, Out: []int{3}})
		}
	}
	testExec(t, api.Code{Ops: constants(5, 6, 7), Cells: make([]int, 4), Next: []int{2, 2, 0, 1}, Out: []int{1, 0, 2, 1, 1}}, 0, make([]int, 4), nil, nil, []int{6, 5, 7, 6, 6}, []int{7, 7, 5, 6})
}

// secondExec tells by the words of the promise what a step makes, each register on numbers without bounds.
func secondExec(c api.Code, n int, cells, ins, links []int) ([]int, []int, api.Errno) {
	if len(c.Ops) > 1500 || len(c.Cells) > 1500 || len(c.Out) > 1500 || len(c.Next) != len(c.Cells) {
		return nil, nil, api.ErrCode
	}
	var regs []*big.Int
	for i, o := range c.Ops {
		if o.Kind < 0 || o.Kind > 14 {
			return nil, nil, api.ErrCode
		}
		for k, f := range []int{o.A, o.B, o.C} {
			limit := map[byte]int{'r': i, 'c': len(c.Cells)}
			if end, limited := limit[fields[o.Kind][k]]; limited && (f < 0 || f >= end) {
				return nil, nil, api.ErrCode
			}
		}
		regs = append(regs, new(big.Int))
	}
	for _, entry := range slices.Concat(c.Next, c.Out) {
		if entry < 0 || entry >= len(c.Ops) {
			return nil, nil, api.ErrCode
		}
	}
	if n < 0 || len(cells) != len(c.Cells) {
		return nil, nil, api.ErrArg
	}
	for i, o := range c.Ops {
		regs[i] = rounded(secondValue(o, n, regs, cells, ins, links))
	}
	out, next := []int{}, []int{}
	for _, entry := range c.Out {
		out = append(out, int(regs[entry].Int64()))
	}
	for _, entry := range c.Next {
		next = append(next, int(regs[entry].Int64()))
	}
	return out, next, api.OK
}

func secondValue(o api.Op, n int, regs []*big.Int, cells, ins, links []int) *big.Int {
	number := func(list []int) *big.Int {
		for i, v := range list {
			if i == o.A {
				return big.NewInt(int64(v))
			}
		}
		return new(big.Int)
	}
	switch o.Kind {
	case api.Const:
		return big.NewInt(int64(o.A))
	case api.In:
		return number(ins)
	case api.Link:
		return number(links)
	case api.Cell:
		return number(cells)
	case api.First:
		return one(n == 0)
	case api.Not:
		return one(regs[o.A].Sign() == 0)
	case api.Choose:
		if regs[o.A].Sign() != 0 {
			return regs[o.B]
		}
		return regs[o.C]
	}
	return infix("+-*/<=&|"[o.Kind-5:o.Kind-4], regs[o.A], regs[o.B])
}

func anyNumber(r *rand.Rand) int {
	return []int{edges[r.Intn(len(edges))], r.Intn(9) - 4, int(r.Uint64())}[r.Intn(3)]
}

func anyNumbers(r *rand.Rand, size int) []int {
	list := make([]int, size)
	for i := range list {
		list[i] = anyNumber(r)
	}
	return list
}

// madeUpCode is mostly well formed: one in so many numbers may be any.
func madeUpCode(r *rand.Rand, wild int) api.Code {
	below := func(end int) int {
		if end == 0 || r.Intn(wild) == 0 {
			return anyNumber(r)
		}
		return r.Intn(end)
	}
	c := api.Code{Cells: anyNumbers(r, r.Intn(4))}
	for i := range r.Intn(30) {
		o := api.Op{Kind: r.Intn(15), A: anyNumber(r), B: anyNumber(r), C: anyNumber(r)}
		if i == 0 {
			o.Kind = r.Intn(3)
		}
		if r.Intn(wild) == 0 {
			o.Kind = r.Intn(17) - 1
		}
		for k := range 3 {
			switch {
			case o.Kind < 0 || o.Kind > 14:
			case fields[o.Kind][k] == 'r':
				o = with(o, k, below(i))
			case fields[o.Kind][k] == 'c':
				o = with(o, k, below(len(c.Cells)))
			case (o.Kind == api.In || o.Kind == api.Link) && k == 0 && r.Intn(4) > 0:
				o.A = r.Intn(3)
			}
		}
		c.Ops = append(c.Ops, o)
	}
	for range c.Cells {
		c.Next = append(c.Next, below(len(c.Ops)))
	}
	for range r.Intn(5) {
		c.Out = append(c.Out, below(len(c.Ops)))
	}
	return c
}

func TestExecAsMeant(t *testing.T) {
	r := rand.New(rand.NewSource(4))
	met := map[api.Errno]int{}
	kinds := map[int]int{}
	for range 20000 {
		c := madeUpCode(r, 1+r.Intn(400))
		cells := anyNumbers(r, len(c.Cells))
		if r.Intn(20) == 0 {
			cells = anyNumbers(r, r.Intn(5))
		}
		n := []int{0, 1, r.Intn(200), anyNumber(r)}[r.Intn(4)]
		ins, links := anyNumbers(r, r.Intn(4)), anyNumbers(r, r.Intn(4))
		out, next, e := Exec(c, n, cells, ins, links)
		wantOut, wantNext, want := secondExec(c, n, cells, ins, links)
		if e != want || !slices.Equal(out, wantOut) || !slices.Equal(next, wantNext) {
			t.Fatalf("P7: Exec(%v, %d, %v, %v, %v) = %v, %v, %d, want %v, %v, %d", c, n, cells, ins, links, out, next, e, wantOut, wantNext, want)
		}
		met[e]++
		for _, o := range c.Ops {
			if e == api.OK {
				kinds[o.Kind]++
			}
		}
	}
	if met[api.OK] < 5000 || met[api.ErrCode] < 2000 || met[api.ErrArg] < 500 || len(kinds) != 15 {
		t.Errorf("too few of a kind: errors %v, operations %v", met, kinds)
	}
}
