package relay

import (
	"slices"
	"strings"
	"testing"

	"relay/api"
)

const (
	most  = 1<<63 - 1
	least = -1 << 63
)

func testStreams(t *testing.T, text string, ins [][]int, n int, want ...[]int) {
	t.Helper()
	got, e := Streams(text, ins, n)
	if e != api.OK || !slices.EqualFunc(got, want, slices.Equal) {
		t.Errorf("P6: Streams(%q, %v, %d) = %v, %d, want %v", text, ins, n, got, e, want)
	}
}

func TestStreamsOfExamples(t *testing.T) {
	testStreams(t, "int x at 0=(0 fby y);int y at 1=(x+1);", nil, 4, []int{0, 1, 2, 3}, []int{1, 2, 3, 4})
	testStreams(t, "in a;int x at 0=((5 fby x)+a);", [][]int{{1, 2}}, 4, []int{6, 8, 8, 8})
	testStreams(t, "in a;in b;int q at 3=(a/b);", [][]int{{7, -7, 7}, {2, 2, 0}}, 3, []int{3, -3, 0})
}

func TestStreamsWithoutEquations(t *testing.T) {
	for _, n := range []int{0, 1, api.MaxInstants} {
		testStreams(t, "", nil, n)
		testStreams(t, "in a;in b;", [][]int{{1}, {2}}, n)
	}
}

func TestStreamsCountOfInstants(t *testing.T) {
	const text = "in a;int x at 0=((0 fby x)+1);bool p at 1=true;"
	testStreams(t, text, [][]int{{1}}, 0, nil, nil)
	testStreams(t, text, nil, 1, []int{1}, []int{1})
	var counted, ones []int
	for k := range api.MaxInstants {
		counted = append(counted, k+1)
		ones = append(ones, 1)
	}
	testStreams(t, text, nil, api.MaxInstants-1, counted[:199], ones[:199])
	testStreams(t, text, nil, api.MaxInstants, counted, ones)
}

func TestStreamsWrongCount(t *testing.T) {
	for _, n := range []int{-1, -2, -200, least, api.MaxInstants + 1, api.MaxInstants + 2, 1 << 32, most} {
		for _, text := range []string{"", "in a;", "int x at 0=(0 fby x);"} {
			if got, e := Streams(text, nil, n); e != api.ErrArg || len(got) != 0 {
				t.Errorf("P6: Streams(%q, nil, %d) = %v, %d, want nothing and %d", text, n, got, e, api.ErrArg)
			}
		}
	}
}

// The error of the text comes ahead of that of the count.
func TestStreamsOfWrongTexts(t *testing.T) {
	for _, c := range wrongTexts {
		for _, n := range []int{least, -1, 0, 1, api.MaxInstants, api.MaxInstants + 1, most} {
			if got, e := Streams(c.text, [][]int{{1}}, n); e != c.e || len(got) != 0 {
				t.Errorf("P6: Streams(%.100q, .., %d) = %v, %d, want nothing and %d", c.text, n, got, e, c.e)
			}
		}
	}
}

func TestStreamsOfInputs(t *testing.T) {
	const text = "int p at 0=a;in a;int q at 1=b;in b;"
	for _, c := range []struct {
		ins  [][]int
		p, q []int
	}{
		{nil, []int{0, 0, 0}, []int{0, 0, 0}},
		{[][]int{}, []int{0, 0, 0}, []int{0, 0, 0}},
		{[][]int{{1, 2, 3}}, []int{1, 2, 3}, []int{0, 0, 0}},
		{[][]int{nil, {4, 5, 6}}, []int{0, 0, 0}, []int{4, 5, 6}},
		{[][]int{{1}, {4, 5}}, []int{1, 0, 0}, []int{4, 5, 0}},
		{[][]int{{1, 2, 3, 9}, {4, 5, 6, 9, 9}}, []int{1, 2, 3}, []int{4, 5, 6}},
		{[][]int{{1, 2, 3}, {4, 5, 6}, {7, 8, 9}, nil, {1}, {2}}, []int{1, 2, 3}, []int{4, 5, 6}},
		{[][]int{{most, least, -1}, {}}, []int{most, least, -1}, []int{0, 0, 0}},
	} {
		testStreams(t, text, c.ins, 3, c.p, c.q)
	}
	testStreams(t, "in d;in c;in b;in a;int x at 0=(((a-b)-c)-d);", [][]int{{1, 0}, {10, 0}, {100, 0}, {1000, 0}}, 2, []int{889, 0})
}

// An element that stands in the spare room of a list is no element of it.
func TestStreamsReadNoSpareRoom(t *testing.T) {
	all := [][]int{{1, 2, 3}, {4, 5, 6}}
	all[0] = all[0][:1]
	testStreams(t, "in a;in b;int x at 0=(a+b);", all[:1], 3, []int{1, 0, 0})
}

func TestStreamsOfSums(t *testing.T) {
	ins := [][]int{{1, most, least, least, most, 1 << 62, 5, -7}, {2, 1, 1, -1, most, 1 << 62, 0, 2}}
	testStreams(t, "in a;in b;int s at 0=(a+b);int d at 1=(a-b);int m at 2=(a*b);int q at 3=(a/b);", ins, 8,
		[]int{3, least, least + 1, most, -2, least, 5, -5},
		[]int{-1, most - 1, most, least + 1, 0, 0, 5, -9},
		[]int{2, most, least, least, 1, 0, 0, -14},
		[]int{0, most, least, least, 1, 1, 0, -3})
}

func TestStreamsOfQuotients(t *testing.T) {
	ins := [][]int{{7, -7, 7, -7, 6, 0, 0, least, least, least, most, least, most}, {2, 2, -2, -2, 7, 7, 0, 0, -1, 1, -1, least, least}}
	testStreams(t, "in a;in b;int q at 0=(a/b);", ins, 13, []int{3, -3, -3, 3, 0, 0, 0, 0, least, least, -most, 1, 0})
}

// Numbers of the text reach the least one by sums alone.
func TestStreamsGoRoundByThemselves(t *testing.T) {
	testStreams(t, "int x at 0=(1 fby (x*2));int y at 1=(x-1);int z at 1=((0-x)/(0-1));", nil, 66,
		powers(66, 0), powers(66, -1), powers(66, 0))
}

func powers(n int, plus int) []int {
	var list []int
	value := 1
	for range n {
		list = append(list, value+plus)
		value *= 2
	}
	return list
}

func TestStreamsOfTruths(t *testing.T) {
	ins := [][]int{{1, 2, 3, least, -1}, {2, 2, 2, most, -1}}
	testStreams(t, "in a;in b;bool l at 0=(a<b);bool s at 0=(a=b);bool n at 0=(not l);bool c at 1=(l&n);bool d at 1=(s|l);bool e at 2=(s&(not l));bool f at 2=((not s)|l);", ins, 5,
		[]int{1, 0, 0, 1, 0}, []int{0, 1, 0, 0, 1}, []int{0, 1, 1, 0, 1}, []int{0, 0, 0, 0, 0}, []int{1, 1, 0, 1, 1}, []int{0, 1, 0, 0, 1}, []int{1, 0, 1, 1, 0})
	testStreams(t, "bool a at 0=(false&false);bool b at 0=(false&true);bool c at 0=(true&false);bool d at 0=(true&true);bool e at 0=(false|false);bool f at 0=(false|true);bool g at 0=(true|false);bool h at 0=(true|true);bool i at 0=(not true);bool k at 0=(not false);", nil, 1,
		[]int{0}, []int{0}, []int{0}, []int{1}, []int{0}, []int{1}, []int{1}, []int{1}, []int{0}, []int{1})
}

func TestStreamsOfIf(t *testing.T) {
	testStreams(t, "in a;int x at 0=(if (a<0) (0-a) a);bool p at 1=(if (a=3) true (a<2));int y at 2=(if p (if (x<5) 1 2) 3);", [][]int{{-4, 3, 2, -9}}, 5,
		[]int{4, 3, 2, 9, 0}, []int{1, 1, 0, 1, 1}, []int{1, 1, 3, 2, 1})
}

func TestStreamsOfFby(t *testing.T) {
	ins := [][]int{{3, 4, 5, 6}}
	testStreams(t, "in a;int x at 0=(1 fby a);", ins, 5, []int{1, 3, 4, 5, 6})
	testStreams(t, "in a;int x at 0=(1 fby (2 fby a));", ins, 5, []int{1, 2, 3, 4, 5})
	testStreams(t, "in a;int x at 0=(1 fby (a+(2 fby a)));", ins, 5, []int{1, 5, 7, 9, 11})
	testStreams(t, "in a;int x at 0=((1 fby a)-(2 fby a));", ins, 4, []int{-1, 0, 0, 0})
	testStreams(t, "bool p at 0=(true fby (not p));bool q at 0=(false fby p);", nil, 4, []int{1, 0, 1, 0}, []int{0, 1, 0, 1})
	testStreams(t, "int x at 0=(007 fby 8);", nil, 3, []int{7, 8, 8})
	testStreams(t, "int x at 0="+strings.Repeat("(0 fby ", 15)+"(1 fby 2)"+strings.Repeat(")", 15)+";", nil, 18, []int{0, 0, 0, 0, 0, 0, 0, 0, 0, 0, 0, 0, 0, 0, 0, 1, 2, 2})
}

// Which branch of an if is taken does not hold back the streams in the other.
func TestStreamsRunOnInBranches(t *testing.T) {
	testStreams(t, "in a;int x at 0=(if (a=1) (10 fby (x+1)) (20 fby a));", [][]int{{0, 1, 0, 0, 1}}, 5, []int{20, 21, 1, 0, 1})
}

// Equations stand in any order, and hang on each other across places.
func TestStreamsInAnyOrder(t *testing.T) {
	testStreams(t, "int w at 0=(x+1);int x at 0=(y*2);int y at 1=(z-3);int z at 2=((5 fby z)+(0 fby w));", nil, 3,
		[]int{5, 15, 45}, []int{4, 14, 44}, []int{2, 7, 22}, []int{5, 10, 25})
	testStreams(t, "int x at 0=(0 fby (y+1));int y at 0=(x*2);", nil, 4, []int{0, 1, 3, 7}, []int{0, 2, 6, 14})
	testStreams(t, "int y at 0=(x*2);int x at 0=(0 fby (y+1));", nil, 4, []int{0, 2, 6, 14}, []int{0, 1, 3, 7})
	chain := ""
	var want [][]int
	for i := range 11 {
		chain += "int " + string([]byte{'a' + byte(i)}) + " at 0=(" + string([]byte{'b' + byte(i)}) + "+1);"
		want = append(want, []int{111 - i, 12 - i})
	}
	testStreams(t, chain+"int l at 0=(100 fby 1);", nil, 2, append(want, []int{100, 1})...)
}

func TestStreamsOfDeepest(t *testing.T) {
	testStreams(t, "in a;int x at 0="+strings.Repeat("(a+", api.MaxDepth)+"1"+strings.Repeat(")", api.MaxDepth)+";", [][]int{{1, -2}}, 3, []int{17, -31, 1})
	testStreams(t, "int x at 0="+strings.Repeat("(", api.MaxDepth)+"1"+strings.Repeat("-1)", api.MaxDepth)+";", nil, 1, []int{-15})
}
