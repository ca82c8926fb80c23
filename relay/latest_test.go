package relay

import (
	"math/big"
	"math/rand"
	"testing"

	"relay/api"
)

func testLatest(t *testing.T, text string, b api.Bounds, k int, want int) {
	t.Helper()
	if at, e := Latest(text, b, k); e != api.OK || at != want {
		t.Errorf("P10: Latest(%.200q, %+v, %d) = %d, %d, want %d", text, b, k, at, e, want)
	}
}

// testLatestError: with an error there is no time, else there is one.
func testLatestError(t *testing.T, want api.Errno, text string, b api.Bounds, k int) {
	t.Helper()
	at, e := Latest(text, b, k)
	if e != want || (e == api.OK) != (at > 0) || e != api.OK && at != 0 {
		t.Errorf("P10: Latest(%.200q, %+v, %d) = %d, %d, want the error %d", text, b, k, at, e, want)
	}
}

func TestLatestOfExamples(t *testing.T) {
	b := api.Bounds{Tmin: 2, Tmax: 3, Dmin: 0, Dmax: 1}
	testLatest(t, counter, b, 0, 11)
	testLatest(t, counter, b, 1, 27)
	testLatest(t, counter, b, 2, 43)
}

func TestLatestOfSteps(t *testing.T) {
	b := api.Bounds{Tmin: 2, Tmax: 3, Dmin: 1, Dmax: 1}
	for _, k := range []int{0, 1, 2, 100, api.MaxInstants - 1, api.MaxInstants} {
		testLatest(t, counter, b, k, 11+16*k)
		testLatest(t, "", b, k, 3+8*k)
	}
	for _, k := range []int{-1, -2, least, api.MaxInstants + 1, api.MaxInstants + 2, 1 << 32, most} {
		testLatestError(t, api.ErrArg, counter, b, k)
		testLatestError(t, api.ErrArg, "", b, k)
		testLatestError(t, api.ErrArg, counter, api.Bounds{}, k)
	}
}

// testChain tells the length of the longest chain by the times that hang on it.
func testChain(t *testing.T, want int, text string) {
	t.Helper()
	testLatest(t, text, api.Bounds{Tmin: 1, Tmax: 1}, 0, 1+2*want)
	testLatest(t, text, api.Bounds{Tmin: 1, Tmax: 1}, 1, 1+2*want+2*(want+1))
	testLatest(t, text, api.Bounds{Tmin: 9, Tmax: 10, Dmin: 3, Dmax: 7}, 5, 10+2*want*17+10*(want+1)*17)
}

func TestLatestOfChains(t *testing.T) {
	for want, texts := range [][]string{
		{
			"", "in a;", "in a;int x at 0=a;int y at 1=a;", "int x at 0=1;int y at 0=x;int z at 0=y;",
			"int x at 0=(0 fby y);int y at 1=(0 fby x);", "int x at 0=1;int y at 1=(0 fby x);int z at 2=(0 fby y);int w at 3=(0 fby z);",
		},
		{
			counter, "int x at 3=1;int y at 0=x;", "int x at 0=1;int y at 1=x;int z at 2=x;int w at 3=x;", "int x at 0=1;int y at 1=2;int z at 2=3;int w at 3=(x+(y+z));",
			"int x at 0=1;int y at 1=x;int z at 2=1;int w at 3=z;",
			// A late link breaks a chain; within a place there is none.
			"int x at 0=1;int y at 1=x;int z at 2=(0 fby y);", "int x at 0=1;int y at 1=x;int z at 2=(0 fby y);int w at 3=z;", "int x at 0=1;int y at 0=x;int z at 0=y;int w at 2=z;",
			"int x at 0=1;int y at 1=x;int z at 0=(0 fby y);int w at 3=z;",
			// Many links between the same places.
			"int x at 0=1;int y at 0=2;int z at 1=(x+y);int w at 1=(x-y);",
			"int x at 0=1;int y at 1=(0 fby (x+1));",
		},
		{
			"int x at 0=1;int y at 1=x;int z at 2=y;", "int z at 0=y;int y at 1=x;int x at 2=1;", "int y at 3=x;int x at 1=1;int z at 2=y;",
			// By way of a place, not of an equation.
			"int x at 0=1;int y at 1=x;int z at 1=2;int w at 3=z;", "int z at 1=2;int w at 3=z;int x at 0=1;int y at 1=x;",
			"int x at 0=1;int y at 1=x;int z at 2=(x+y);", "int x at 0=1;int y at 1=x;int z at 2=y;int w at 3=(x+y);", "int x at 0=1;int y at 1=x;int z at 2=x;int w at 3=(y+z);",
			"int x at 0=(0 fby z);int y at 1=x;int z at 2=y;",
			"int x at 0=1;int y at 1=x;int z at 2=y;int w at 3=(0 fby z);",
		},
		{
			"int x at 0=1;int y at 1=x;int z at 2=y;int w at 3=z;", "int x at 3=1;int y at 2=x;int z at 1=y;int w at 0=z;", "int w at 1=z;int y at 0=x;int z at 3=y;int x at 2=1;",
			"int x at 0=1;int y at 1=x;int z at 2=(x+y);int w at 3=z;", "int x at 0=1;int y at 1=x;int z at 2=(x+y);int w at 3=(x+(y+z));",
			"int x at 0=1;int y at 1=x;int z at 1=2;int u at 2=z;int v at 2=3;int w at 3=v;",
			"int x at 0=(0 fby w);int y at 1=((0 fby w)+x);int z at 2=(y+(0 fby w));int w at 3=z;",
		},
	} {
		for _, text := range texts {
			testChain(t, want, text)
		}
	}
}

// Chains of three in all orders of the places and of the equations.
func TestLatestOfChainsInAnyOrder(t *testing.T) {
	r := rand.New(rand.NewSource(8))
	for range 200 {
		places, turns := r.Perm(4), r.Perm(4)
		links := r.Intn(4)
		lines := make([]string, 4)
		for i := range 4 {
			value := "1"
			if i > 0 && i <= links {
				value = string([]byte{'a' + byte(i-1)})
			}
			lines[turns[i]] = "int " + string([]byte{'a' + byte(i)}) + " at " + string([]byte{'0' + byte(places[i])}) + "=" + value + ";"
		}
		testChain(t, links, lines[0]+lines[1]+lines[2]+lines[3])
	}
}

func TestLatestOfWidestBounds(t *testing.T) {
	const chained = "int x at 0=1;int y at 1=x;int z at 2=y;int w at 3=z;"
	for _, c := range []struct {
		b    api.Bounds
		want [4]int // at 0 and at MaxInstants, without links and with a chain of three
	}{
		{api.Bounds{Tmin: 1, Tmax: 1}, [4]int{1, 401, 7, 1607}},
		{api.Bounds{Tmin: 1, Tmax: api.MaxSpan}, [4]int{1000000, 401000000, 7000000, 1607000000}},
		{api.Bounds{Tmin: api.MaxSpan, Tmax: api.MaxSpan, Dmin: 0, Dmax: api.MaxSpan - 1}, [4]int{1000000, 800999600, 12999994, 3212998394}},
		{api.Bounds{Tmin: api.MaxSpan, Tmax: api.MaxSpan, Dmin: api.MaxSpan - 1, Dmax: api.MaxSpan - 1}, [4]int{1000000, 800999600, 12999994, 3212998394}},
	} {
		for i, text := range []string{"", chained} {
			testLatest(t, text, c.b, 0, c.want[i*2])
			testLatest(t, text, c.b, api.MaxInstants, c.want[i*2+1])
		}
	}
}

// The error of the text comes ahead of those of the bounds and the step.
func TestLatestOfWrongTexts(t *testing.T) {
	for _, c := range wrongTexts {
		for _, b := range []api.Bounds{{Tmin: 1, Tmax: 1}, {}, {Tmin: least, Tmax: most}} {
			for _, k := range []int{least, -1, 0, api.MaxInstants, api.MaxInstants + 1, most} {
				testLatestError(t, c.e, c.text, b, k)
			}
		}
	}
}

// chainTo counts the links of the longest chain that ends with a link to a place.
func chainTo(homes []int, routes []api.Route, place int) int {
	longest := 0
	for _, r := range routes {
		if r.To == place && !r.Late {
			longest = max(longest, 1+chainTo(homes, routes, homes[r.From]))
		}
	}
	return longest
}

// homesOf: the place of each equation.
func homesOf(text string) []int {
	var list []int
	for _, d := range declarations(text) {
		if d.kind != "in" {
			list = append(list, d.place)
		}
	}
	return list
}

func TestLatestAsMeant(t *testing.T) {
	m := &planner{Rand: rand.New(rand.NewSource(9))}
	met := [4]int{}
	for range 600 {
		text, b, k := m.program(), madeUpBounds(m.Rand), m.Intn(api.MaxInstants+1)
		homes, routes := homesOf(text), secondLinks(text)
		chain := 0
		for place := range 4 {
			chain = max(chain, chainTo(homes, routes, place))
		}
		met[chain]++
		span := big.NewInt(int64(b.Tmax + b.Dmax))
		want := big.NewInt(int64(2*chain + 2*k*(chain+1)))
		want.Mul(want, span).Add(want, big.NewInt(int64(b.Tmax)))
		at, e := Latest(text, b, k)
		if e != api.OK || big.NewInt(int64(at)).Cmp(want) != 0 {
			t.Fatalf("P10: Latest(%q, %+v, %d) = %d, %d, want %v", text, b, k, at, e, want)
		}
	}
	for chain, count := range met {
		if count < 10 {
			t.Errorf("only %d programs have a chain of %d", count, chain)
		}
	}
}
