package relay

import (
	"fmt"
	"math/rand"
	"reflect"
	"slices"
	"strings"
	"testing"

	"relay/api"
)

// code: a place's step program, with its bounds tested.
func code(t *testing.T, text string, place int) api.Code {
	t.Helper()
	c, e := Code(text, place)
	if e != api.OK {
		t.Fatalf("P8: Code(%q, %d): error %d", text, place, e)
	}
	equations, delays := 0, 0
	for _, d := range declarations(text) {
		if d.kind != "in" && d.place == place {
			equations++
			delays += fbys(d.expr)
		}
	}
	if len(c.Ops) > len(text) || len(c.Out) != equations || len(c.Cells) > delays {
		t.Fatalf("P8: Code(%q, %d) has %d operations, %d cells, %d in Out, for %d bytes, %d fby, %d equations", text, place, len(c.Ops), len(c.Cells), len(c.Out), len(text), delays, equations)
	}
	if _, _, e := secondExec(c, 0, c.Cells, nil, nil); e != api.OK {
		t.Fatalf("P8: Code(%q, %d) = %v is not well formed: %d", text, place, c, e)
	}
	return c
}

// fbys counts the fby that stand in an EXPR.
func fbys(e item) int {
	count := 0
	for _, part := range e.parts {
		if part.text == "fby" {
			count++
		}
		count += fbys(part)
	}
	return count
}

// testSteps plays a place's step program with what comes on the links to it, a list for each step.
func testSteps(t *testing.T, text string, place int, ins [][]int, links [][]int, want ...[]int) {
	t.Helper()
	c := code(t, text, place)
	cells := c.Cells
	for n := range want {
		var element, link []int
		if n < len(ins) {
			element = ins[n]
		}
		if n < len(links) {
			link = links[n]
		}
		out, next, e := Exec(c, n, cells, element, link)
		if e != api.OK || !slices.Equal(out, want[n]) {
			t.Fatalf("P8: Code(%q, %d), step %d with %v, %v: %v, %d, want %v", text, place, n, element, link, out, e, want[n])
		}
		cells = next
	}
}

// testPlayed plays the step programs of all places, each on its own, and compares with the streams. At the first step a late link has junk.
func testPlayed(t *testing.T, text string, ins [][]int, n int, junk int) {
	t.Helper()
	rows, e := Streams(text, ins, n)
	routes, _ := Links(text)
	if e != api.OK {
		t.Fatalf("P8: Streams(%q, .., %d): error %d", text, n, e)
	}
	places := [4][]int{} // the equations at each
	inputs, equations := 0, 0
	for _, d := range declarations(text) {
		if d.kind == "in" {
			inputs++
			continue
		}
		places[d.place] = append(places[d.place], equations)
		equations++
	}
	for place, here := range places {
		if len(here) == 0 {
			testNoCode(t, text, place, api.ErrPlace)
			continue
		}
		c := code(t, text, place)
		cells := c.Cells
		for k := range n {
			out, next, e := Exec(c, k, cells, elementsAt(ins, inputs, k), linksAt(rows, routes, place, k, junk))
			want := []int{}
			for _, i := range here {
				want = append(want, rows[i][k])
			}
			if e != api.OK || !slices.Equal(out, want) {
				t.Fatalf("P8: Code(%q, %d) = %v, step %d with inputs %v: %v, %d, want %v", text, place, c, k, ins, out, e, want)
			}
			cells = next
		}
	}
}

func elementsAt(ins [][]int, inputs int, k int) []int {
	list := make([]int, inputs)
	for i := range list {
		if i < len(ins) && k < len(ins[i]) {
			list[i] = ins[i][k]
		}
	}
	return list
}

func linksAt(rows [][]int, routes []api.Route, place int, k int, junk int) []int {
	list := []int{}
	for _, r := range routes {
		switch {
		case r.To != place:
		case !r.Late:
			list = append(list, rows[r.From][k])
		case k == 0:
			list = append(list, junk)
		default:
			list = append(list, rows[r.From][k-1])
		}
	}
	return list
}

func testNoCode(t *testing.T, text string, place int, want api.Errno) {
	t.Helper()
	c, e := Code(text, place)
	if e != want || len(c.Ops)+len(c.Cells)+len(c.Next)+len(c.Out) != 0 {
		t.Errorf("P8: Code(%.100q, %d) = %v, %d, want nothing and %d", text, place, c, e, want)
	}
}

func TestCodeOfExamples(t *testing.T) {
	testPlayed(t, "int x at 0=(0 fby y);int y at 1=(x+1);", nil, 4, -99)
	testPlayed(t, "in a;int x at 0=((5 fby x)+a);", [][]int{{1, 2}}, 4, -99)
	testPlayed(t, "in a;in b;int q at 3=(a/b);", [][]int{{7, -7, 7}, {2, 2, 0}}, 3, -99)
}

func TestCodeWithoutEquations(t *testing.T) {
	wrong := []int{least, -1 << 32, -2, -1, 4, 5, 1 << 32, most}
	for _, place := range append(wrong, 0, 1, 2, 3) {
		testNoCode(t, "", place, api.ErrPlace)
		testNoCode(t, " \n", place, api.ErrPlace)
		testNoCode(t, "in a;in b;", place, api.ErrPlace)
	}
	for at := range 4 {
		text := fmt.Sprintf("in a;int x at %d=a;", at)
		for place := range 4 {
			if place != at {
				testNoCode(t, text, place, api.ErrPlace)
			}
		}
		testSteps(t, text, at, [][]int{{5}}, nil, []int{5})
		for _, place := range wrong {
			testNoCode(t, text, place, api.ErrPlace)
		}
	}
}

// The error of the text comes ahead of that of the place.
func TestCodeOfWrongTexts(t *testing.T) {
	for _, c := range wrongTexts {
		for _, place := range []int{least, -1, 0, 1, 2, 3, 4, most} {
			testNoCode(t, c.text, place, c.e)
		}
	}
}

func TestCodeOfSingleEquations(t *testing.T) {
	ins := [][]int{{7, 2}, {-7, 2}, {least, -1}, {most, 1}, {4, 4}, {0, 0}}
	for _, c := range []struct {
		kind, expr string
		want       []int
	}{
		{"int", "5", []int{5, 5, 5, 5, 5, 5}}, {"int", "999999999999999999", []int{999999999999999999, 999999999999999999, 999999999999999999, 999999999999999999, 999999999999999999, 999999999999999999}},
		{"bool", "true", []int{1, 1, 1, 1, 1, 1}}, {"bool", "false", []int{0, 0, 0, 0, 0, 0}},
		{"int", "a", []int{7, -7, least, most, 4, 0}}, {"int", "b", []int{2, 2, -1, 1, 4, 0}},
		{"int", "(a+b)", []int{9, -5, most, least, 8, 0}}, {"int", "(a-b)", []int{5, -9, least + 1, most - 1, 0, 0}}, {"int", "(a*b)", []int{14, -14, least, most, 16, 0}}, {"int", "(a/b)", []int{3, -3, least, most, 1, 0}},
		{"bool", "(a<b)", []int{0, 1, 1, 0, 0, 0}}, {"bool", "(a=b)", []int{0, 0, 0, 0, 1, 1}}, {"bool", "(not (a=b))", []int{1, 1, 1, 1, 0, 0}},
		{"bool", "((a<b)&(a<0))", []int{0, 1, 1, 0, 0, 0}}, {"bool", "((a<b)|(a=b))", []int{0, 1, 1, 0, 1, 1}},
		{"int", "(if (a<b) 1 b)", []int{2, 1, 1, 1, 4, 0}}, {"bool", "(if (a=4) false (b=2))", []int{1, 1, 0, 0, 0, 0}},
		{"int", "(3 fby a)", []int{3, 7, -7, least, most, 4}}, {"int", "(3 fby (4 fby a))", []int{3, 4, 7, -7, least, most}}, {"bool", "(true fby (a<b))", []int{1, 0, 1, 1, 0, 0}}, {"bool", "(false fby true)", []int{0, 1, 1, 1, 1, 1}},
		{"int", "((1 fby a)-(1 fby b))", []int{0, 5, -9, least + 1, most - 1, 0}}, {"int", "(0 fby (a+(9 fby b)))", []int{0, 16, -5, least + 2, most - 1, 5}},
	} {
		var want [][]int
		for _, v := range c.want {
			want = append(want, []int{v})
		}
		testSteps(t, "in a;in b;"+c.kind+" x at 2="+c.expr+";", 2, ins, nil, want...)
	}
}

// The values come in the order of the equations, whatever the order of working them out.
func TestCodeOrderOfEquations(t *testing.T) {
	testSteps(t, "int x at 1=(y+1);in a;int y at 1=(z*2);int z at 1=a;", 1, [][]int{{5}, {-3}}, nil, []int{11, 10, 5}, []int{-5, -6, -3})
	testSteps(t, "in b;int z at 1=a;int y at 1=z;in a;int x at 1=y;int w at 1=(x-z);", 1, [][]int{{9, 5}}, nil, []int{5, 5, 5, 0})
	testSteps(t, "int a at 0=1;int b at 2=2;int c at 0=3;int d at 2=4;int e at 0=5;", 0, nil, nil, []int{1, 3, 5})
	testSteps(t, "int a at 0=1;int b at 2=2;int c at 0=3;int d at 2=4;int e at 0=5;", 2, nil, nil, []int{2, 4})
}

// What follows a fby may name any equation of the place, those too that hang on the fby.
func TestCodeOfCirclesThroughFby(t *testing.T) {
	testSteps(t, "int x at 0=(0 fby (y+1));int y at 0=(x*2);", 0, nil, nil, []int{0, 0}, []int{1, 2}, []int{3, 6}, []int{7, 14})
	testSteps(t, "int x at 0=(0 fby x);", 0, nil, nil, []int{0}, []int{0})
	testSteps(t, "int x at 0=(1 fby y);int y at 0=(2 fby x);", 0, nil, nil, []int{1, 2}, []int{2, 1}, []int{1, 2})
	testSteps(t, "int x at 0=(1 fby (2 fby (x+y)));int y at 0=((5 fby (0 fby x))+x);", 0, nil, nil, []int{1, 6}, []int{2, 2}, []int{7, 8}, []int{4, 6})
}

// Deep within what follows a fby, and side by side.
func TestCodeOfFbyWithinFby(t *testing.T) {
	deepest := "int x at 0="
	for i := range 16 {
		deepest += fmt.Sprintf("(%d fby ", i)
	}
	testPlayed(t, "in a;"+deepest+"a"+strings.Repeat(")", 16)+";", [][]int{{100, 101, 102, 103}}, 22, 0)
	testPlayed(t, "in a;int x at 0=(1 fby (if (a<(2 fby a)) (3 fby (x+(4 fby a))) (5 fby (6 fby x))));", [][]int{{1, 2, 1, 5, 7, 3, 2, 9}}, 12, 0)
	testPlayed(t, "in a;int x at 0=((1 fby ((2 fby a)+(3 fby a)))*(4 fby ((5 fby x)-(6 fby a))));", [][]int{{1, 2, 3, 4, 5, 6}}, 9, 0)
}

// Which branch of an if is taken does not hold back the cells in the other.
func TestCodeRunsOnInBranches(t *testing.T) {
	testSteps(t, "in a;int x at 0=(if (a=1) (10 fby (x+1)) (20 fby a));", 0, [][]int{{0}, {1}, {0}, {0}, {1}}, nil, []int{20}, []int{21}, []int{1}, []int{0}, []int{1})
}

func TestCodeOfPromptLinks(t *testing.T) {
	for _, c := range []struct {
		expr string
		want []int
	}{
		{"x", []int{5, 8, -2}}, {"(x+x)", []int{10, 16, -4}}, {"(0 fby (x+0))", []int{0, 5, 8}},
		{"(x+(7 fby x))", []int{12, 13, 6}}, {"((7 fby x)+x)", []int{12, 13, 6}}, {"((7 fby x)-(1 fby (x*x)))", []int{6, -20, -56}},
		{"(1 fby (x-(2 fby x)))", []int{1, 3, 3}}, {"(1 fby (2 fby (x+1)))", []int{1, 2, 6}}, {"((1 fby (2 fby x))+(x*0))", []int{1, 2, 5}},
	} {
		text := "int x at 3=0;int y at 0=" + c.expr + ";"
		testLinks(t, text, prompt(0, 0))
		testSteps(t, text, 0, nil, [][]int{{5}, {8}, {-2}}, []int{c.want[0]}, []int{c.want[1]}, []int{c.want[2]})
	}
	testSteps(t, "bool p at 1=true;bool q at 2=(not p);bool r at 2=(true fby p);", 2, nil, [][]int{{1}, {0}, {1}}, []int{0, 1}, []int{1, 1}, []int{0, 0})
}

// A late link has at a step the value of the instant before; at the first one any number at all.
func TestCodeOfLateLinks(t *testing.T) {
	for _, c := range []struct {
		expr string
		want []int
	}{
		{"(7 fby x)", []int{7, 5, 8}}, {"((7 fby x)+(1 fby x))", []int{8, 10, 16}}, {"(if (9<(7 fby x)) 1 (0-(6 fby x)))", []int{-6, -5, -8}},
		{"(1 fby (7 fby x))", []int{1, 7, 5}}, {"(1 fby (2 fby (3 fby x)))", []int{1, 2, 3}}, {"(0 fby ((1 fby x)*2))", []int{0, 2, 10}},
		{"((4 fby x)-(3 fby (2 fby x)))", []int{1, 3, 3}},
	} {
		text := "int x at 3=0;int y at 0=" + c.expr + ";"
		testLinks(t, text, late(0, 0))
		for _, junk := range edges {
			testSteps(t, text, 0, nil, [][]int{{junk}, {5}, {8}}, []int{c.want[0]}, []int{c.want[1]}, []int{c.want[2]})
		}
	}
	for _, junk := range edges {
		testSteps(t, "bool p at 1=true;bool q at 2=(not (true fby p));bool r at 2=(false fby p);", 2, nil, [][]int{{junk}, {0}, {1}}, []int{0, 0}, []int{1, 0}, []int{0, 1})
	}
}

// One equation has a late link to one place and a prompt one to another; a place has both.
func TestCodeOfBothLinks(t *testing.T) {
	const text = "in a;int x at 0=a;int y at 1=(0 fby x);int z at 2=(0 fby x);int w at 2=x;int v at 1=(z-(9 fby w));"
	testSteps(t, text, 1, nil, [][]int{{-99, 3, -99}, {10, 4, 20}, {11, 5, 21}}, []int{0, -6}, []int{10, -16}, []int{11, -16})
	testSteps(t, text, 2, nil, [][]int{{10}, {11}, {12}}, []int{0, 10}, []int{10, 11}, []int{11, 12})
	testPlayed(t, text, [][]int{{3, 1, 4, 1, 5}}, 8, -99)
}

// The links to a place are counted on their own, by the number of the equation.
func TestCodeOrderOfLinks(t *testing.T) {
	const text = "int t at 3=(((a*1000)+(b*100))+((c*10)+(1 fby d)));int u at 0=(a+b);int a at 1=1;int v at 2=(0 fby a);int b at 1=2;int c at 2=3;int d at 0=4;"
	testLinks(t, text, prompt(2, 0), late(2, 2), prompt(2, 3), prompt(4, 0), prompt(4, 3), prompt(5, 3), late(6, 3))
	testSteps(t, text, 3, nil, [][]int{{5, 6, 7, -99}, {9, 8, 7, 6}}, []int{5671}, []int{9876})
	testSteps(t, text, 0, nil, [][]int{{20, 3}}, []int{23, 4})
	testSteps(t, text, 2, nil, [][]int{{-99}, {30}}, []int{0, 3}, []int{30, 3})
	testSteps(t, text, 1, nil, nil, []int{1, 2})
}

// tree: so many leaves, in brackets.
func tree(leaf string, count int) string {
	if count == 1 {
		return leaf
	}
	return "(" + tree(leaf, count/2) + "+" + tree(leaf, count-count/2) + ")"
}

// The longest texts, with as much as they hold of what makes operations or cells.
func TestCodeBounds(t *testing.T) {
	for _, leaf := range []string{"1", "a", "x", "y", "(0fby 1)", "(0fby a)", "(0fby x)", "(0fby y)", "(1+(0fby x))", "(0fby(0fby x))", "(0fby(0fby y))", "(0fby(y+1))", "(if(a<x)y 1)"} {
		fullest := ""
		for size := 1; ; size++ {
			text := "in a;int x at 0=1;int y at 1=2;int z at 1=" + tree(leaf, size) + ";"
			if e, _ := Check(text); e != api.OK {
				break
			}
			fullest = text
		}
		if len(fullest) < api.MaxText-50 {
			t.Errorf("the fullest text of %s has only %d bytes", leaf, len(fullest))
		}
		testPlayed(t, fullest, [][]int{{1, -2, 3}}, 5, -99)
	}
}

func TestCodeOfTwelveEquations(t *testing.T) {
	text := ""
	for i := range 12 {
		text += fmt.Sprintf("int %c at 2=((%d fby %c)+%d);", 'a'+i, i, 'a'+(i+5)%12, i*i)
	}
	c := code(t, text, 2)
	if len(c.Out) != 12 {
		t.Errorf("P8: Code(%q, 2) has %d in Out", text, len(c.Out))
	}
	testPlayed(t, text, nil, api.MaxInstants, 0)
}

// Noughts and blanks are bytes of the text, but make no operations.
func TestCodeOfSpacedText(t *testing.T) {
	testPlayed(t, filled("in a ;\nint x at 0003 = ( 0007 fby\n( a + x ) ) ;", api.MaxText), [][]int{{1, 2, 3}}, 5, 0)
}

func TestCodeOfMostLinks(t *testing.T) {
	text := "in a;"
	for i := range 4 {
		for k := range 3 {
			text += fmt.Sprintf("int %c at %d=(a+(", 'b'+i*3+k, i)
			for other := range 12 {
				if other/3 != i && other%3 == k {
					text += fmt.Sprintf("(%d fby %c)+(", other, 'b'+other)
				}
			}
			text += "1+1))" + strings.Repeat(")", 3) + ";"
		}
	}
	testPlayed(t, text, [][]int{{1, 0, -5, 2}}, 20, -99)
}

func TestCodeAgain(t *testing.T) {
	const text = "in a;int x at 0=((1 fby (a+(2 fby y)))+(3 fby y));int y at 1=(x*(4 fby a));"
	for place := range 2 {
		first := code(t, text, place)
		for range 3 {
			if again := code(t, text, place); !reflect.DeepEqual(first, again) {
				t.Errorf("P2: Code(%q, %d) = %v, then %v", text, place, first, again)
			}
		}
	}
}

func TestCodeAsMeant(t *testing.T) {
	m := &planner{Rand: rand.New(rand.NewSource(5))}
	met := map[string]int{}
	for i := range 2500 {
		text := m.program()
		n := m.Intn(9)
		if i%100 == 0 {
			n = api.MaxInstants
		}
		testPlayed(t, text, elements(m.Rand, n), n, anyNumber(m.Rand))
		for place := range 4 {
			c, e := Code(text, place)
			met[fmt.Sprint("error ", e)]++
			met["cells"] += len(c.Cells)
			for _, o := range c.Ops {
				met[fmt.Sprint("kind ", o.Kind)]++
			}
		}
	}
	if met["error 0"] < 3000 || met["error 8"] < 1000 || met["cells"] < 3000 {
		t.Errorf("too few of a kind: %v", met)
	}
	for kind := range 15 {
		if met[fmt.Sprint("kind ", kind)] < 100 {
			t.Errorf("too few operations of kind %d: %v", kind, met)
		}
	}
}
