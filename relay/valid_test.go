package relay

import (
	"fmt"
	"math/rand"
	"slices"
	"testing"

	"relay/api"
)

// counter: place 0 and 1 have equations, 2 and 3 have none.
const counter = "int x at 0=(0 fby y);int y at 1=(x+1);"

func testValid(t *testing.T, want api.Errno, text string, b api.Bounds, s []api.Act) {
	t.Helper()
	if e := Valid(text, b, s); e != want {
		t.Errorf("P9: Valid(%.200q, %+v, %.300s) = %d, want %d", text, b, fmt.Sprint(s), e, want)
	}
}

// testPlayable tells by Run whether a script is playable: Run asks for nothing more. What is not playable is not valid.
func testPlayable(t *testing.T, want bool, text string, s []api.Act) {
	t.Helper()
	events, e := Run(text, nil, s)
	if want && (e != api.OK || len(events) != len(s)) || !want && (e != api.ErrScript || len(events) != 0) {
		t.Errorf("P9: Run(%q, nil, %.300s): %d events, %d, playable: %v", text, fmt.Sprint(s), len(events), e, want)
	}
	if !want {
		testValid(t, api.ErrScript, text, api.Bounds{Tmin: 1, Tmax: api.MaxSpan}, s)
		testValid(t, api.ErrScript, text, api.Bounds{Tmin: api.MaxSpan, Tmax: api.MaxSpan, Dmax: api.MaxSpan - 1}, s)
	}
}

func act(place, at, ack, data int) api.Act {
	return api.Act{Place: place, At: at, Ack: ack, Data: data}
}

func TestPlayableCountOfActs(t *testing.T) {
	var s []api.Act
	for i := range api.MaxActs + 2 {
		s = append(s, act(0, i, 0, 0))
	}
	b := api.Bounds{Tmin: 1, Tmax: 1}
	for _, n := range []int{0, 1, api.MaxActs - 1, api.MaxActs} {
		testPlayable(t, true, counter, s[:n])
		testValid(t, api.OK, counter, b, s[:n])
	}
	for _, n := range []int{api.MaxActs + 1, api.MaxActs + 2} {
		testPlayable(t, false, counter, s[:n])
		testValid(t, api.ErrScript, counter, b, s[:n])
	}
	testPlayable(t, false, counter, make([]api.Act, 1<<22))
	testPlayable(t, true, counter, nil)
	testPlayable(t, true, counter, []api.Act{})
}

func TestPlayablePlaces(t *testing.T) {
	for place := range 4 {
		text := fmt.Sprintf("in a;int x at %d=a;", place)
		for _, other := range []int{least, -4, -1, 0, 1, 2, 3, 4, 8, 1 << 32, most} {
			testPlayable(t, other == place, text, []api.Act{act(other, 1, 0, 0)})
			testPlayable(t, other == place, text, []api.Act{act(place, 0, 0, 0), act(other, 1, 0, 0), act(place, 2, 0, 0)})
		}
	}
	for _, text := range []string{"", "in a;", "\n"} {
		testPlayable(t, true, text, nil)
		for place := -1; place <= 4; place++ {
			testPlayable(t, false, text, []api.Act{act(place, 0, 0, 0)})
		}
	}
	testPlayable(t, true, "int x at 3=1;int y at 0=2;int z at 3=4;", script("3@0 0@0 3@1"))
	testPlayable(t, false, "int x at 3=1;int y at 0=2;int z at 3=4;", script("3@0 0@0 1@1"))
}

func TestPlayableTimes(t *testing.T) {
	for _, at := range []int{0, 1, 1 << 32, api.MaxTime - 1, api.MaxTime} {
		testPlayable(t, true, counter, []api.Act{act(0, at, 0, 0)})
		testPlayable(t, true, counter, []api.Act{act(0, at, 0, 0), act(1, at, 0, 0)})
		testPlayable(t, true, counter, []api.Act{act(1, 0, 0, 0), act(0, at, 0, 0), act(1, api.MaxTime, 0, 0)})
	}
	for _, at := range []int{-1, -2, least, least + 1, api.MaxTime + 1, most - 1, most} {
		testPlayable(t, false, counter, []api.Act{act(0, at, 0, 0)})
		testPlayable(t, false, counter, []api.Act{act(0, 5, 0, 0), act(1, at, 0, 0)})
		testPlayable(t, false, counter, []api.Act{act(0, at, 0, 0), act(1, 5, 0, 0)})
		testPlayable(t, false, counter, []api.Act{act(0, at, 0, 0), act(0, 5, 0, 0)})
		testPlayable(t, false, counter, []api.Act{act(0, 5, 0, 0), act(0, at, 0, 0)})
		testPlayable(t, false, counter, []api.Act{act(0, 5, 0, 0), act(0, at, most, most)})
		testPlayable(t, false, counter, []api.Act{act(0, at, 0, 0), act(1, at, 0, 0)})
	}
}

func TestPlayableTimesGoOn(t *testing.T) {
	for _, s := range []string{"0@5 1@5", "0@5 1@6", "0@5 1@5 0@6", "1@0 0@0 1@1 0@1"} {
		testPlayable(t, true, counter, script(s))
	}
	for _, s := range []string{"0@5 1@4", "0@5 0@4", "0@5 1@7 0@6", "0@0 0@1 0@2 1@1", "1@1 0@0"} {
		testPlayable(t, false, counter, script(s))
	}
	// Two acts of a place at one time: no delay is less than 0.
	testPlayable(t, false, counter, script("0@5 0@5"))
	testPlayable(t, false, counter, script("0@5 1@5 0@5"))
	testPlayable(t, false, counter, script("0@0 0@0"))
}

// testDelays: each of the delays, beside one that may be, and both; of the first act in the script.
func testDelays(t *testing.T, want bool, delay int, s []api.Act) {
	t.Helper()
	for _, pair := range [][2]int{{delay, 0}, {0, delay}, {delay, delay}} {
		other := slices.Clone(s)
		other[0].Ack, other[0].Data = pair[0], pair[1]
		testPlayable(t, want, counter, other)
	}
}

func TestPlayableDelays(t *testing.T) {
	for _, delay := range []int{-1, -2, least, api.MaxTime + 1, most} {
		testDelays(t, false, delay, script("0@0"))
		testDelays(t, false, delay, script("1@7 0@8"))
		testDelays(t, false, delay, []api.Act{act(0, 0, 0, 0), act(0, api.MaxTime, 0, 0)})
	}
	// Of a place's last act, whatever the others do.
	for _, delay := range []int{0, 1, 5, api.MaxTime - 1, api.MaxTime} {
		testDelays(t, true, delay, script("0@0"))
		testDelays(t, true, delay, []api.Act{act(0, api.MaxTime, 0, 0)})
		testDelays(t, true, delay, script("0@3 1@3 1@4 1@9"))
	}
}

// Up to the next act of the place: just as long is too long.
func TestPlayableDelaysToTheNextAct(t *testing.T) {
	for _, gap := range []int{1, 2, 3, 1 << 32, api.MaxTime} {
		s := []api.Act{act(0, 0, 0, 0), act(0, gap, 0, 0)}
		among := []api.Act{act(0, 0, 0, 0), act(1, 0, 0, 0), act(0, gap, 0, 0), act(1, api.MaxTime, 0, 0)}
		for _, delay := range []int{0, gap / 2, gap - 1} {
			testDelays(t, true, delay, s)
			testDelays(t, true, delay, among)
		}
		for _, delay := range []int{gap, gap + 1, most} {
			testDelays(t, false, delay, s)
			testDelays(t, false, delay, among)
		}
	}
	// The next act counts, not a later one; and each act, not the first alone.
	testPlayable(t, false, counter, script("0@0,2,0 0@2 0@9"))
	testPlayable(t, true, counter, script("0@0,1,1 0@2,6,6 0@9,9,9"))
	testPlayable(t, false, counter, script("0@0,1,1 0@2,7,6 0@9"))
	testPlayable(t, false, counter, script("0@0,1,1 0@2,6,7 0@9"))
	testPlayable(t, false, counter, script("0@0 1@0 1@1 0@3,0,1 1@3,1,0 0@4 1@5"))
	testPlayable(t, true, counter, script("0@0 1@0 1@1 0@3,0,1 1@3,1,0 0@5 1@5"))
}

func TestBoundsThatFit(t *testing.T) {
	for _, b := range []api.Bounds{
		{Tmin: 1, Tmax: 1}, {Tmin: 1, Tmax: 2}, {Tmin: 1, Tmax: api.MaxSpan}, {Tmin: api.MaxSpan, Tmax: api.MaxSpan},
		{Tmin: 2, Tmax: 2, Dmax: 1}, {Tmin: 2, Tmax: 9, Dmin: 1, Dmax: 1}, {Tmin: api.MaxSpan, Tmax: api.MaxSpan, Dmin: api.MaxSpan - 1, Dmax: api.MaxSpan - 1},
	} {
		testValid(t, api.OK, counter, b, nil)
		testLatestError(t, api.OK, counter, b, 0)
	}
	for _, b := range []api.Bounds{
		{}, {Tmin: 0, Tmax: 1}, {Tmin: -1, Tmax: 1}, {Tmin: least, Tmax: most}, {Tmin: 2, Tmax: 1}, {Tmin: 1, Tmax: 0}, {Tmin: 1, Tmax: least},
		{Tmin: 1, Tmax: api.MaxSpan + 1}, {Tmin: api.MaxSpan + 1, Tmax: api.MaxSpan + 1}, {Tmin: 1, Tmax: most}, {Tmin: most, Tmax: most, Dmin: 1, Dmax: 1},
		{Tmin: 5, Tmax: 5, Dmin: -1, Dmax: 1}, {Tmin: 5, Tmax: 5, Dmin: least, Dmax: 1}, {Tmin: 5, Tmax: 5, Dmin: -1, Dmax: -1},
		{Tmin: 5, Tmax: 5, Dmin: 2, Dmax: 1}, {Tmin: 5, Tmax: 5, Dmin: 1}, {Tmin: 5, Tmax: 5, Dmin: 1, Dmax: least},
		{Tmin: 5, Tmax: 5, Dmax: 5}, {Tmin: 5, Tmax: 9, Dmax: 6}, {Tmin: 5, Tmax: 5, Dmin: 5, Dmax: 5}, {Tmin: 1, Tmax: 1, Dmax: 1}, {Tmin: 5, Tmax: 9, Dmax: most},
	} {
		for _, s := range [][]api.Act{nil, script("0@0"), script("9@9,9,9"), make([]api.Act, api.MaxActs+1)} {
			testValid(t, api.ErrArg, counter, b, s)
			testValid(t, api.ErrArg, "", b, s)
		}
		testLatestError(t, api.ErrArg, counter, b, 0)
	}
}

func TestValidFirstActs(t *testing.T) {
	b := api.Bounds{Tmin: 4, Tmax: 7, Dmin: 0, Dmax: 2}
	for at := range 8 {
		testValid(t, api.OK, counter, b, []api.Act{act(0, at, 0, 0)})
		testValid(t, api.OK, counter, b, []api.Act{act(0, at, 0, 0), act(1, 7, 0, 0)})
		testValid(t, api.OK, counter, b, []api.Act{act(1, 0, 0, 0), act(0, at, 0, 0), act(1, 7, 0, 0)})
	}
	for _, at := range []int{8, 9, 1 << 32, api.MaxTime} {
		testValid(t, api.ErrScript, counter, b, []api.Act{act(0, at, 0, 0)})
		testValid(t, api.ErrScript, counter, b, []api.Act{act(0, 7, 0, 0), act(1, at, 0, 0)})
	}
	testValid(t, api.OK, counter, b, script("0@0 0@4 0@8"))
	testValid(t, api.ErrScript, counter, b, script("0@0 0@4 0@8 1@8"))
	wide := api.Bounds{Tmin: 1, Tmax: api.MaxSpan}
	testValid(t, api.OK, counter, wide, []api.Act{act(1, api.MaxSpan, 0, 0)})
	testValid(t, api.ErrScript, counter, wide, []api.Act{act(1, api.MaxSpan+1, 0, 0)})
}

func TestValidTimesBetween(t *testing.T) {
	b := api.Bounds{Tmin: 4, Tmax: 7, Dmin: 0, Dmax: 2}
	for gap := range 12 {
		want := api.ErrScript
		if gap >= 4 && gap <= 7 {
			want = api.OK
		}
		testValid(t, want, counter, b, []api.Act{act(1, 3, 0, 0), act(1, 3+gap, 0, 0)})
		testValid(t, want, counter, b, []api.Act{act(1, 1, 0, 0), act(1, 6, 0, 0), act(1, 6+gap, 0, 0)})
		testValid(t, want, counter, b, []api.Act{act(0, 3, 0, 0), act(1, 3, 0, 0), act(0, 3+gap, 0, 0)})
	}
	// The next act of the place counts: neither that of another place, nor the one after the next.
	testValid(t, api.OK, counter, b, script("0@0 1@1 0@4 1@5 0@8 1@9"))
	testValid(t, api.OK, counter, b, script("0@0 0@7 0@14 0@21"))
	testValid(t, api.ErrScript, counter, b, script("0@0 0@7 0@14 0@22"))
	wide := api.Bounds{Tmin: api.MaxSpan, Tmax: api.MaxSpan}
	testValid(t, api.OK, counter, wide, []api.Act{act(1, 5, 0, 0), act(1, api.MaxSpan+5, 0, 0)})
	testValid(t, api.ErrScript, counter, wide, []api.Act{act(1, 5, 0, 0), act(1, api.MaxSpan+4, 0, 0)})
	testValid(t, api.ErrScript, counter, wide, []api.Act{act(1, 5, 0, 0), act(1, api.MaxSpan+6, 0, 0)})
}

// Each of the delays, at each act, also a place's last one.
func TestValidDelays(t *testing.T) {
	b := api.Bounds{Tmin: 9, Tmax: 9, Dmin: 2, Dmax: 5}
	for _, delay := range []int{least, -1, 0, 1, 2, 3, 4, 5, 6, 7, 8, 9, api.MaxTime, most} {
		want := api.ErrScript
		if delay >= 2 && delay <= 5 {
			want = api.OK
		}
		for i := range 3 {
			s := script("0@0,2,5 0@9,5,2 0@18,3,4")
			s[i].Ack = delay
			testValid(t, want, counter, b, s)
			s = script("0@0,2,5 0@9,5,2 0@18,3,4")
			s[i].Data = delay
			testValid(t, want, counter, b, s)
		}
	}
	testValid(t, api.OK, counter, api.Bounds{Tmin: 1, Tmax: 1}, script("0@0 0@1"))
	testValid(t, api.ErrScript, counter, api.Bounds{Tmin: 1, Tmax: 1}, script("0@0 0@1,1,0"))
	testValid(t, api.ErrScript, counter, api.Bounds{Tmin: 1, Tmax: 1}, script("0@0 0@1,0,1"))
}

func TestValidOfNoActs(t *testing.T) {
	for _, text := range []string{"", "in a;", counter} {
		for _, s := range [][]api.Act{nil, {}} {
			testValid(t, api.OK, text, api.Bounds{Tmin: 1, Tmax: 1}, s)
			testValid(t, api.ErrArg, text, api.Bounds{}, s)
		}
	}
}

// The error of the text comes first, then that of the bounds, then that of the script.
func TestValidOrderOfErrors(t *testing.T) {
	fits := api.Bounds{Tmin: 1, Tmax: 1}
	for _, c := range wrongTexts {
		for _, b := range []api.Bounds{fits, {}, {Tmin: least, Tmax: most}} {
			for _, s := range [][]api.Act{nil, script("0@0"), script("9@9,9,9"), make([]api.Act, 1<<20)} {
				testValid(t, c.e, c.text, b, s)
			}
		}
	}
	testValid(t, api.ErrArg, counter, api.Bounds{}, script("9@9,9,9"))
	testValid(t, api.ErrScript, counter, fits, script("9@9,9,9"))
}

// Made-up scripts, many of them valid but for one number, are judged a second time.
func TestValidAsMeant(t *testing.T) {
	m := &planner{Rand: rand.New(rand.NewSource(7))}
	met := map[string]int{}
	var text string
	var places []int
	for i := range 20000 {
		if i%10 == 0 {
			text = m.program()
			places = peopled(text)
		}
		b := madeUpBounds(m.Rand)
		s := validScript(m.Rand, places, b, m.Intn(9))
		if m.Intn(3) == 0 {
			s = playableScript(m.Rand, places, m.Intn(9))
		}
		for range m.Intn(3) {
			s = spoiled(m.Rand, s)
		}
		if m.Intn(4) == 0 {
			field := []*int{&b.Tmin, &b.Tmax, &b.Dmin, &b.Dmax}[m.Intn(4)]
			*field += []int{1, -1, anyNumber(m.Rand)}[m.Intn(3)]
		}
		want := secondValid(places, b, s)
		if e := Valid(text, b, s); e != want {
			t.Fatalf("P9: Valid(%q, %+v, %v) = %d, want %d", text, b, s, e, want)
		}
		_, e := Run(text, nil, s)
		if playable := secondPlayable(places, s); (e == api.OK) != playable || (e == api.ErrScript) == playable {
			t.Fatalf("P9: Run(%q, nil, %v): error %d, playable: %v", text, s, e, playable)
		}
		met[fmt.Sprint("Valid ", want)]++
		met[fmt.Sprint("Run ", e)]++
	}
	for _, kind := range []string{"Valid 0", "Valid 10", "Valid 11", "Run 0", "Run 11"} {
		if met[kind] < 2000 {
			t.Errorf("too few of a kind: %v", met)
		}
	}
}
