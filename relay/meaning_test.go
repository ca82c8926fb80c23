package relay

import (
	"math/big"
	"math/rand"
	"reflect"
	"strconv"
	"testing"

	"relay/api"
)

// The tests of this file tell the links and the streams of many made-up programs a second time, word by word as they are meant, and compare.

func secondLinks(text string) []api.Route {
	var equations []declared
	for _, d := range declarations(text) {
		if d.kind != "in" {
			equations = append(equations, d)
		}
	}
	list := []api.Route{}
	for from, x := range equations {
		for to := range 4 {
			all, right := 0, 0
			for _, user := range equations {
				for _, n := range names(user.expr, false, false) {
					if user.place == to && n.text == x.name.text {
						all++
						right += map[bool]int{true: 1}[n.right]
					}
				}
			}
			if all > 0 && x.place != to {
				list = append(list, api.Route{From: from, To: to, Late: right == all})
			}
		}
	}
	return list
}

// teller tells single values, each straight from what it is meant to be.
type teller struct {
	exprs map[string]item
	input map[string]int
	ins   [][]int
	known map[[2]int]*big.Int // by the place in the text, and the instant
}

func newTeller(text string, ins [][]int) *teller {
	w := &teller{map[string]item{}, map[string]int{}, ins, map[[2]int]*big.Int{}}
	for _, d := range declarations(text) {
		if d.kind == "in" {
			w.input[d.name.text] = len(w.input)
		} else {
			w.exprs[d.name.text] = d.expr
		}
	}
	return w
}

func (w *teller) at(e item, k int) *big.Int {
	key := [2]int{e.at, k}
	if w.known[key] == nil {
		w.known[key] = rounded(w.tell(e, k))
	}
	return w.known[key]
}

// rounded: numbers go round at 64 bits.
func rounded(v *big.Int) *big.Int {
	half, whole := new(big.Int).Lsh(big.NewInt(1), 63), new(big.Int).Lsh(big.NewInt(1), 64)
	v = new(big.Int).Add(v, half)
	return v.Sub(v.Mod(v, whole), half)
}

func (w *teller) tell(e item, k int) *big.Int {
	of := e.parts
	switch {
	case isNumber(e.text):
		v, _ := strconv.Atoi(e.text)
		return big.NewInt(int64(v))
	case isLiteral(e.text):
		return one(e.text == "true")
	case isName(e.text):
		return w.named(e.text, k)
	case of[0].text == "not":
		return one(w.at(of[1], k).Sign() == 0)
	case of[0].text == "if" && w.at(of[1], k).Sign() != 0:
		return w.at(of[2], k)
	case of[0].text == "if":
		return w.at(of[3], k)
	case of[1].text == "fby" && k == 0:
		return w.at(of[0], 0)
	case of[1].text == "fby":
		return w.at(of[2], k-1)
	}
	return infix(of[1].text, w.at(of[0], k), w.at(of[2], k))
}

func (w *teller) named(name string, k int) *big.Int {
	input, is := w.input[name]
	if !is {
		return w.at(w.exprs[name], k)
	}
	if input < len(w.ins) && k < len(w.ins[input]) {
		return big.NewInt(int64(w.ins[input][k]))
	}
	return new(big.Int)
}

func infix(op string, a, b *big.Int) *big.Int {
	switch op {
	case "+":
		return new(big.Int).Add(a, b)
	case "-":
		return new(big.Int).Sub(a, b)
	case "*":
		return new(big.Int).Mul(a, b)
	case "/":
		if b.Sign() == 0 {
			return new(big.Int)
		}
		return new(big.Int).Quo(a, b)
	case "<":
		return one(a.Cmp(b) < 0)
	case "=":
		return one(a.Cmp(b) == 0)
	case "&":
		return one(a.Sign()*b.Sign() != 0)
	}
	return one(a.Sign() != 0 || b.Sign() != 0)
}

func one(is bool) *big.Int {
	if is {
		return big.NewInt(1)
	}
	return new(big.Int)
}

func secondStreams(text string, ins [][]int, n int) [][]int {
	w := newTeller(text, ins)
	rows := [][]int{}
	for _, d := range declarations(text) {
		if d.kind == "in" {
			continue
		}
		row := []int{}
		for k := range n {
			row = append(row, int(w.at(d.expr, k).Int64()))
		}
		rows = append(rows, row)
	}
	return rows
}

// elements: lists of made-up numbers, some too short for n instants, some too long.
func elements(r *rand.Rand, n int) [][]int {
	edges := []int{0, 1, -1, 2, -2, 7, most, most - 1, least, least + 1, 1 << 32, -1 << 32}
	var ins [][]int
	for range r.Intn(6) {
		var list []int
		for range r.Intn(n + 4) {
			list = append(list, []int{edges[r.Intn(len(edges))], r.Intn(9) - 4, int(r.Uint64())}[r.Intn(3)])
		}
		ins = append(ins, list)
	}
	return ins
}

func TestLinksAndStreamsAsMeant(t *testing.T) {
	m := &planner{Rand: rand.New(rand.NewSource(3))}
	met := map[string]int{}
	for i := range 2500 {
		text := m.program()
		n := m.Intn(9)
		if i%200 == 0 {
			n = api.MaxInstants
		}
		ins := elements(m.Rand, n)
		routes, e := Links(text)
		if want := secondLinks(text); e != api.OK || len(routes)+len(want) > 0 && !reflect.DeepEqual(routes, want) {
			t.Fatalf("P5: Links(%q) = %v, %d, want %v", text, routes, e, want)
		}
		rows, e := Streams(text, ins, n)
		if want := secondStreams(text, ins, n); e != api.OK || !reflect.DeepEqual(rows, want) {
			t.Fatalf("P6: Streams(%q, %v, %d) = %v, %d, want %v", text, ins, n, rows, e, want)
		}
		for _, r := range routes {
			met[map[bool]string{true: "late", false: "prompt"}[r.Late]]++
		}
	}
	if met["late"] < 1000 || met["prompt"] < 1000 {
		t.Errorf("too few links: %v", met)
	}
}
