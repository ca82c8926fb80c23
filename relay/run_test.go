package relay

import (
	"fmt"
	"math/rand"
	"reflect"
	"slices"
	"strings"
	"testing"

	"relay/api"
)

// short writes an event without its place and time: W, S and P for what was done; the step's number behind S and P; the values behind =; the links that were taken of behind <.
func short(e api.Event) string {
	list := func(sign string, numbers []int) string {
		if len(numbers) == 0 {
			return ""
		}
		return sign + strings.ReplaceAll(strings.Trim(fmt.Sprint(numbers), "[]"), " ", ",")
	}
	text := fmt.Sprint(e.Did, " ", e.N)
	switch e.Did {
	case api.Waited:
		text = strings.Replace(text, "0 0", "W", 1)
	case api.Stepped:
		text = fmt.Sprint("S", e.N)
	case api.Published:
		text = fmt.Sprint("P", e.N)
	}
	return text + list("=", e.Values) + list("<", e.Took)
}

func shortAll(events []api.Event) string {
	var words []string
	for _, e := range events {
		words = append(words, short(e))
	}
	return strings.Join(words, " ")
}

func testActs(t *testing.T, text string, ins [][]int, s []api.Act, want string) {
	t.Helper()
	events, e := Run(text, ins, s)
	if got := shortAll(events); e != api.OK || got != want {
		t.Errorf("P11: Run(%q, %v, %v) = %s, %d, want %s", text, ins, s, got, e, want)
	}
	for i := range min(len(events), len(s)) {
		if events[i].Place != s[i].Place || events[i].At != s[i].At {
			t.Errorf("P11: Run(%q, %v, %v): event %d is %+v", text, ins, s, i, events[i])
		}
	}
}

func testRun(t *testing.T, text string, acts string, want string) {
	t.Helper()
	testActs(t, text, nil, script(acts), want)
}

func testRunError(t *testing.T, want api.Errno, text string, s []api.Act) {
	t.Helper()
	events, e := Run(text, [][]int{{1}}, s)
	if e != want || len(events) != 0 {
		t.Errorf("P11: Run(%.100q, .., %.300s): %d events, %d, want none and %d", text, fmt.Sprint(s), len(events), e, want)
	}
}

func TestRunOfExamples(t *testing.T) {
	testRun(t, counter, "0@0 0@1 1@1 1@2 0@2 0@3 0@4", "S0 P0=0 S0<0 P0=1 S1<1 P1=1 W")
	testRunError(t, api.ErrScript, counter, script("0@0 0@1,0,1 1@1 1@2 0@2 0@3 0@4"))
}

func TestRunOfNoActs(t *testing.T) {
	for _, text := range []string{"", "in a;", counter} {
		testActs(t, text, nil, nil, "")
		testActs(t, text, [][]int{{1}}, []api.Act{}, "")
	}
}

// At a place from which no link goes nothing need be acknowledged.
func TestRunOfOnePlace(t *testing.T) {
	testRun(t, "int x at 2=(3 fby (x+1));", "2@0 2@1 2@5 2@6 2@100", "S0 P0=3 S1 P1=4 S2")
	testRun(t, "int x at 2=(3 fby (x+1));", "2@7,2,2 2@10,89,89 2@100,9,9", "S0 P0=3 S1")
	testRun(t, "int x at 0=1;int y at 0=(x+1);bool p at 0=(x<y);", "0@0 0@1", "S0 P0=1,2,1")
	testRun(t, "int x at 0=1;int y at 1=x;", "0@0 0@1 1@1,9,9 1@11,9,9 1@21,9,9 0@31 0@32 1@32 1@42 1@43", "S0 P0=1 S0<0 P0=1 W S1 P1=1 S1<0 P1=1 W")
}

func TestRunOfInputs(t *testing.T) {
	const text = "in a;in b;int x at 1=(a-b);int y at 3=(b*2);"
	testActs(t, text, [][]int{{5, 6}, {1, 1, 1}}, script("1@0 3@0 1@1 3@1 1@2 3@2 1@3 3@3 1@4 1@5"), "S0 S0 P0=4 P0=2 S1 S1 P1=5 P1=2 S2 P2=-1")
	testActs(t, text, nil, script("1@0 1@1"), "S0 P0=0")
	testActs(t, text, [][]int{nil, {most}, {7}}, script("1@0 1@1 3@1 3@2"), "S0 P0=-9223372036854775807 S0 P0=-2")
	// Elements beyond are not looked at, nor the spare room.
	ins := [][]int{{1, 2, 3}, {4}}
	ins[0] = ins[0][:1]
	testActs(t, text, ins[:1], script("1@0 1@1 1@2 1@3"), "S0 P0=1 S1 P1=0")
}

// A late link is full at first, a prompt one is empty.
func TestRunAtFirst(t *testing.T) {
	testRun(t, "int x at 0=1;int y at 1=(7 fby x);", "1@0 1@1 1@2 1@3", "S0 P0=7 W W")
	testRun(t, "int x at 0=1;int y at 1=x;", "1@0 1@1 1@2", "W W W")
	testRun(t, "int x at 0=(3 fby y);int y at 1=(4 fby x);", "1@0 0@0 1@1 0@1 1@2 0@2 1@3 0@3 1@4", "S0 S0 P0=4 P0=3<1 S1<0 S1 P1=3 P1=4<1 S2<0")
	// Late and prompt links to one place: the prompt one holds the first step up.
	testRun(t, "int x at 0=1;int y at 1=2;int z at 2=((5 fby x)+y);", "2@0 0@0 2@1 0@1 2@2 1@2 1@3 2@3 2@4 2@5", "W S0 W P0=1 W S0 P0=2 S0<1 P0=7<0 W")
}

// What was published ahead of a late link's first step is taken behind it: the slot was full.
func TestRunOfAFullSlot(t *testing.T) {
	testRun(t, "int x at 0=(1 fby (x+1));int y at 1=(7 fby x);", "0@0 0@1 1@2 0@2 0@3 1@3 0@4 1@4 0@5", "S0 P0=1 S0 S1 W P0=7<0 P1=2 S1 S2")
	// A slot is filled once: the second value stays on the link until a step has emptied it.
	testRun(t, "int x at 0=(1 fby (x+1));int y at 1=(x+(0*(0 fby z)));int z at 2=5;",
		"0@0 0@1 1@2 0@2 0@3 1@4 1@5 2@5 2@6 2@7 1@7 1@8 1@9",
		"S0 P0=1 S0<0 S1 P1=2 P0=1<0 W S0 P0=5 S1 S1<1 P1=2 W")
}

// A value that comes at an act's own time is there; a moment ahead of it it is not.
func TestRunOfComingValues(t *testing.T) {
	const text = "int x at 0=(1 fby (x+1));int y at 1=x;"
	testRun(t, text, "0@0 0@1,0,4 1@4 1@5", "S0 P0=1 W S0<0")
	testRun(t, text, "0@0 0@1,0,4 1@5", "S0 P0=1 S0<0")
	testRun(t, text, "0@0 0@1,0,4 1@6", "S0 P0=1 S0<0")
	testRun(t, text, "0@0 0@1,0,5 1@4 1@5", "S0 P0=1 W W")
	testRun(t, text, "0@0 0@1,9,0 1@1", "S0 P0=1 S0<0")
	testRun(t, text, "0@0 0@1,0,1 1@1 1@2", "S0 P0=1 W S0<0")
	// The delay is that of the act that publishes, not of the one that makes the step, nor of the one that takes.
	testRun(t, text, "0@0,3,3 0@4 1@4,9,9", "S0 P0=1 S0<0")
}

// What is acknowledged at an act's own time is known; a moment ahead of it it is not.
func TestRunOfAcknowledgements(t *testing.T) {
	const text = "int x at 0=(1 fby (x+1));int y at 1=x;"
	testRun(t, text, "0@0 0@1 1@2,3,0 0@3 0@4 0@5", "S0 P0=1 S0<0 S1 W P1=2")
	testRun(t, text, "0@0 0@1 1@2,3,0 0@3 0@6", "S0 P0=1 S0<0 S1 P1=2")
	testRun(t, text, "0@0 0@1 1@2,4,0 0@3 0@5", "S0 P0=1 S0<0 S1 W")
	testRun(t, text, "0@0 0@1 0@2 1@3,0,9 0@3", "S0 P0=1 S1 S0<0 P1=2")
	testRun(t, text, "0@0 0@1 0@2 1@3,1,0 0@3 0@4", "S0 P0=1 S1 S0<0 W P1=2")
	// Without being taken, nothing is acknowledged, however long it takes.
	testRun(t, text, "0@0 0@1 0@2 0@3 0@1000000", "S0 P0=1 S1 W W")
	// The delay is that of the act that takes, not of the one that makes the step or publishes.
	testRun(t, "int x at 0=(1 fby (x+1));int y at 1=x;int z at 2=x;int w at 1=z;", "0@0,0,0 0@1,0,0 1@2,1,0 2@2 2@3 1@4,5,5 0@4 0@5,0,0 1@10", "S0 P0=1 W<0 S0<1 P0=1 S0<2 S1 P1=2 P0=1,1<0")
}

// At one time the acts count in their order.
func TestRunAtOneTime(t *testing.T) {
	const text = "int x at 0=(1 fby (x+1));int y at 1=x;"
	testRun(t, text, "0@0 1@1 0@1 1@2", "S0 W P0=1 S0<0")
	testRun(t, text, "0@0 0@1 1@1", "S0 P0=1 S0<0")
	testRun(t, text, "0@0 0@1 0@2 0@3 1@3 0@4", "S0 P0=1 S1 W S0<0 P1=2")
	testRun(t, text, "0@0 0@1 0@2 1@3 0@3 1@4 0@4 1@5", "S0 P0=1 S1 S0<0 P1=2 P0=1<0 S2 S1")
	// Over all places within one moment.
	const chain = "int x at 0=(1 fby (x+1));int y at 1=(x*10);int z at 2=(y+x);int w at 3=(z-y);"
	testRun(t, chain, "0@0 1@0 2@0 3@0 3@1 2@1 1@1 0@1 0@2 1@2 2@2 3@2 0@3 1@3 2@3 3@3 0@4 1@4 2@4 3@4 3@5",
		"S0 W W W W W W P0=1 S1 S0<0 W<1 W P1=2 P0=10<0 S0<2 W<3 S2 S1 P0=11<1 S0<4 P0=1")
}

// Several links to one place: all slots are to be full, and what has come is taken as it comes.
func TestRunOfLinksToOnePlace(t *testing.T) {
	const text = "int x at 0=1;int y at 1=2;int z at 2=3;int w at 3=((x+y)+z);"
	testRun(t, text, "0@0 1@0 2@0 0@1 3@1 1@2 3@2 3@3 2@4 3@4 3@5", "S0 S0 S0 P0=1 W<0 P0=2 W<1 W P0=3 S0<2 P0=6")
	testRun(t, text, "0@0 1@0 2@0 0@1 1@1 2@1 3@1 3@2", "S0 S0 S0 P0=1 P0=2 P0=3 S0<0,1,2 P0=6")
	testRun(t, text, "0@0 1@0 2@0 2@1 0@1 3@1 1@2 3@2", "S0 S0 S0 P0=3 P0=1 W<0,2 P0=2 S0<1")
	// Two links from one place to another bring their values at once.
	testRun(t, "int x at 0=1;int y at 0=2;int z at 1=(x-y);int w at 1=((9 fby y)*2);", "0@0 0@1,0,2 1@2 1@3 1@4", "S0 P0=1,2 W S0<0,1 P0=-1,18")
	testRun(t, "int x at 0=(1 fby (x+1));int y at 0=(x*x);int z at 1=(x-(9 fby y));int w at 1=(5 fby (x+y));", "0@0 0@1 1@1 0@2 1@2 0@3 1@3 1@4", "S0 P0=1,1 S0<0,1 S1 P0=-8,5 P1=2,4 S1<0,1 P1=1,2")
	testRun(t, "int x at 0=(1 fby (x+1));int y at 0=(x*x);int z at 1=(x-(9 fby x));int w at 1=(5 fby y);", "0@0 0@1 1@1 0@2 1@2 0@3 0@4 1@4 1@5", "S0 P0=1,1 S0<0 S1 P0=-8,5<1 P1=2,4 S2 S1<0 P1=1,1<1")
}

// One equation goes to several places, and several equations of a place: the next values wait for the last acknowledgement of all.
func TestRunOfLinksFromOnePlace(t *testing.T) {
	const text = "int x at 0=(1 fby (x+1));int y at 1=x;int z at 2=x;int w at 3=(8 fby x);"
	testRun(t, text, "0@0 0@1 0@2 1@3 0@3 2@4 0@4 3@5 0@5 3@6,2,0 0@6 0@7 0@8 0@9", "S0 P0=1 S1 S0<0 W S0<1 W S0 W P0=8<2 W W P1=2 S2")
	testRun(t, text, "0@0 0@1 3@1 3@2 1@2,5,0 2@2 0@3 0@6 0@7", "S0 P0=1 S0 P0=8<2 S0<0 S0<1 S1 W P1=2")
	testRun(t, "int x at 1=1;int y at 1=2;int z at 0=x;int w at 3=y;", "1@0 1@1 1@2 0@3 1@3 3@4,3,0 1@4 1@6 1@7 1@8", "S0 P0=1,2 S1 S0<0 W S0<1 W W P1=1,2 S2")
	// A place's own names, and names that no other place has, make no link to be acknowledged.
	testRun(t, "int x at 1=1;int y at 1=x;int z at 0=y;", "1@0 1@1 0@1 1@2 1@3", "S0 P0=1,1 S0<0 S1 P1=1,1")
}

// Took has the numbers of the links among all links.
func TestRunNumbersOfLinks(t *testing.T) {
	const text = "int a at 3=1;int b at 2=(a+1);int c at 1=((a+b)+(0 fby d));int d at 0=(c+(a*10));"
	testLinks(t, text, prompt(0, 0), prompt(0, 1), prompt(0, 2), prompt(1, 1), prompt(2, 0), late(3, 1))
	testRun(t, text, "3@0 3@1 2@1 1@1 0@1 2@2 1@2 1@3 0@3 1@4 0@4 1@5 1@6", "S0 P0=1 S0<2 W<1 W<0 P0=2 S0<3 P0=3 S0<4 W P0=13 W<5 W")
}

// A place that waits for a value; for an acknowledgement; N is 0 then, and there are no values.
func TestRunWaits(t *testing.T) {
	events, e := Run("int x at 0=(5 fby (x+1));int y at 1=x;", nil, script("1@0 0@0 0@1 1@1 1@2 1@3 0@3 0@4 0@5 0@6 0@7"))
	want := []api.Event{
		{Place: 1, At: 0},
		{Place: 0, At: 0, Did: api.Stepped},
		{Place: 0, At: 1, Did: api.Published, Values: []int{5}},
		{Place: 1, At: 1, Did: api.Stepped, Took: []int{0}},
		{Place: 1, At: 2, Did: api.Published, Values: []int{5}},
		{Place: 1, At: 3},
		{Place: 0, At: 3, Did: api.Stepped, N: 1},
		{Place: 0, At: 4, Did: api.Published, N: 1, Values: []int{6}},
		{Place: 0, At: 5, Did: api.Stepped, N: 2},
		{Place: 0, At: 6},
		{Place: 0, At: 7},
	}
	if e != api.OK || len(events) != len(want) {
		t.Fatalf("P11: got %+v, %d", events, e)
	}
	for i := range want {
		g, w := events[i], want[i]
		if len(g.Took)+len(w.Took) == 0 {
			g.Took = w.Took
		}
		if len(g.Values)+len(w.Values) == 0 {
			g.Values = w.Values
		}
		if !reflect.DeepEqual(g, w) {
			t.Errorf("P11: event %d is %+v, want %+v", i, events[i], w)
		}
	}
}

// A place that holds values still takes what comes, and steps again when they are published.
func TestRunTakesWhileItHolds(t *testing.T) {
	const text = "int x at 0=(1 fby (x+1));int y at 1=x;int z at 2=y;"
	testRun(t, text, "0@0 0@1 1@1 0@2 1@2 0@3 1@3 0@4 1@4 0@5 1@5 0@6 1@6 2@6 1@7 1@8 0@8 1@9", "S0 P0=1 S0<0 S1 P0=1 P1=2 S1<0 S2 W P2=3 W<0 S3 W S0<1 P1=2 S2 P3=4 W<0")
}

func TestRunAtTheLatestTimes(t *testing.T) {
	s := []api.Act{act(0, 0, 0, 0), act(0, 1, 0, api.MaxTime-2), act(1, api.MaxTime-2, 0, 0), act(1, api.MaxTime-1, 0, 0), act(0, api.MaxTime, api.MaxTime, api.MaxTime)}
	testActs(t, counter, nil, s, "S0 P0=0 W S0<0 W")
	s = []api.Act{act(0, 0, 0, 0), act(0, api.MaxTime, api.MaxTime, api.MaxTime), act(1, api.MaxTime, api.MaxTime, api.MaxTime)}
	testActs(t, counter, nil, s, "S0 P0=0 W")
	s = []api.Act{act(0, 0, 0, 0), act(0, api.MaxTime, 0, 0), act(1, api.MaxTime, api.MaxTime, api.MaxTime)}
	testActs(t, counter, nil, s, "S0 P0=0 S0<0")
}

// One place wakes at all acts: it makes half as many steps.
func TestRunOfMostActs(t *testing.T) {
	const text = "in a;int x at 1=((0 fby x)+a);bool p at 1=(x<9);"
	var s []api.Act
	ins := [][]int{nil}
	for i := range api.MaxActs {
		s = append(s, act(1, i, 0, 0))
		ins[0] = append(ins[0], i*i)
	}
	rows, _ := Streams(text, ins, api.MaxInstants)
	for _, size := range []int{api.MaxActs, api.MaxActs - 1, 3, 2, 1} {
		var want []string
		for i := range size {
			if i%2 == 0 {
				want = append(want, fmt.Sprint("S", i/2))
			} else {
				want = append(want, fmt.Sprintf("P%d=%d,%d", i/2, rows[0][i/2], rows[1][i/2]))
			}
		}
		testActs(t, text, ins, s[:size], strings.Join(want, " "))
	}
}

// The error of the text comes ahead of that of the script.
func TestRunOfWrongTexts(t *testing.T) {
	for _, c := range wrongTexts {
		for _, s := range [][]api.Act{nil, script("0@0"), script("9@9,9,9"), make([]api.Act, 1<<20)} {
			testRunError(t, c.e, c.text, s)
		}
	}
}

func TestRunOfUnplayableScripts(t *testing.T) {
	for _, s := range []string{"2@0", "-1@0", "4@0", "0@-1", "0@1 1@0", "0@0,-1,0", "0@0,0,-1", "0@0 0@0", "0@0,1,0 0@1", "0@0,0,1 0@1", "0@0 0@1 1@1 1@2 0@2 0@3 3@4"} {
		testRunError(t, api.ErrScript, counter, script(s))
	}
	testRunError(t, api.ErrScript, "", script("0@0"))
	testRunError(t, api.ErrScript, counter, []api.Act{act(0, api.MaxTime+1, 0, 0)})
	testRunError(t, api.ErrScript, counter, []api.Act{act(0, 0, api.MaxTime+1, 0)})
	testRunError(t, api.ErrScript, counter, []api.Act{act(0, 0, 0, api.MaxTime+1)})
}

// parcel: a value on its way over a link.
type parcel struct{ value, comes int }

// player plays the places a second time: each makes its steps with its step program and with what it was handed, and knows nothing of the streams.
type player struct {
	t      *testing.T
	text   string
	ins    [][]int
	homes  []int // the place of each equation
	inputs int
	routes []api.Route
	sent   [][]parcel // over each link, from the first on
	told   [][]int    // of each link: the times of the acknowledgements, from the first on
	slots  [][]int    // of each link: nothing, or the value
	codes  [4]api.Code
	cells  [4][]int
	made   [4]int   // how many steps
	held   [4][]int // nothing, or the values
}

func newPlayer(t *testing.T, text string, ins [][]int, junk int) *player {
	p := &player{t: t, text: text, ins: ins, homes: homesOf(text), routes: secondLinks(text)}
	p.inputs = len(declarations(text)) - len(p.homes)
	for _, r := range p.routes {
		p.sent, p.told, p.slots = append(p.sent, nil), append(p.told, nil), append(p.slots, nil)
		if r.Late {
			p.slots[len(p.slots)-1] = []int{junk}
		}
	}
	for _, place := range peopled(text) {
		p.codes[place] = code(t, text, place)
		p.cells[place] = p.codes[place].Cells
	}
	return p
}

func (p *player) wake(a api.Act) api.Event {
	e := api.Event{Place: a.Place, At: a.At}
	var handed []int
	ready, known := true, true
	for i, r := range p.routes {
		if r.To == a.Place {
			taken := len(p.told[i])
			if len(p.slots[i]) == 0 && taken < len(p.sent[i]) && p.sent[i][taken].comes <= a.At {
				p.slots[i] = []int{p.sent[i][taken].value}
				p.told[i] = append(p.told[i], a.At+a.Ack)
				e.Took = append(e.Took, i)
			}
			ready = ready && len(p.slots[i]) == 1
			handed = append(handed, p.slots[i]...)
		}
		if p.homes[r.From] == a.Place {
			sent := len(p.sent[i])
			known = known && len(p.told[i]) == sent && (sent == 0 || p.told[i][sent-1] <= a.At)
		}
	}
	switch {
	case len(p.held[a.Place]) == 0 && ready:
		e.Did, e.N = api.Stepped, p.made[a.Place]
		p.step(a.Place, handed)
	case len(p.held[a.Place]) > 0 && known:
		e.Did, e.N, e.Values = api.Published, p.made[a.Place]-1, p.held[a.Place]
		p.publish(a)
	}
	return e
}

func (p *player) step(place int, handed []int) {
	n := p.made[place]
	out, next, e := Exec(p.codes[place], n, p.cells[place], elementsAt(p.ins, p.inputs, n), handed)
	if e != api.OK {
		p.t.Fatalf("P8: step %d at %d of %q: error %d", n, place, p.text, e)
	}
	p.held[place], p.cells[place] = out, next
	p.made[place]++
	for i, r := range p.routes {
		if r.To == place {
			p.slots[i] = nil
		}
	}
}

func (p *player) publish(a api.Act) {
	for i, r := range p.routes {
		if p.homes[r.From] != a.Place {
			continue
		}
		order := 0 // among the equations at the place
		for _, home := range p.homes[:r.From] {
			if home == a.Place {
				order++
			}
		}
		p.sent[i] = append(p.sent[i], parcel{p.held[a.Place][order], a.At + a.Data})
	}
	p.held[a.Place] = nil
}

// testPlaces plays a script with Run and with step programs, and compares; and compares what is published with the streams.
func testPlaces(t *testing.T, text string, ins [][]int, s []api.Act, junk int) []api.Event {
	t.Helper()
	events, e := Run(text, ins, s)
	if e != api.OK || len(events) != len(s) {
		t.Fatalf("P11: Run(%q, %v, %v): %d events, %d", text, ins, s, len(events), e)
	}
	p := newPlayer(t, text, ins, junk)
	rows, _ := Streams(text, ins, api.MaxInstants)
	for i, a := range s {
		want := p.wake(a)
		got := events[i]
		if got.Place != want.Place || got.At != want.At || got.Did != want.Did || got.N != want.N || !slices.Equal(got.Took, want.Took) || !slices.Equal(got.Values, want.Values) {
			t.Fatalf("P11: Run(%q, %v, %v): event %d is %+v, want %+v", text, ins, s, i, got, want)
		}
		if got.Did != api.Published {
			continue
		}
		var values []int
		for number, home := range p.homes {
			if home == a.Place {
				values = append(values, rows[number][got.N])
			}
		}
		if !slices.Equal(got.Values, values) {
			t.Fatalf("P11: Run(%q, %v, %v): event %d is %+v, but the streams are %v", text, ins, s, i, got, values)
		}
	}
	return events
}

// testTurns: a place's steps are 0, 1, 2, .. and between two of them it publishes the former.
func testTurns(t *testing.T, text string, events []api.Event) {
	t.Helper()
	turns := [4]int{}
	for i, e := range events {
		if e.Did == api.Waited {
			continue
		}
		turn := turns[e.Place]
		if e.N != turn/2 || e.Did != []int{api.Stepped, api.Published}[turn%2] {
			t.Fatalf("P11: of %q event %d is %+v, turn %d of the place", text, i, e, turn)
		}
		turns[e.Place]++
	}
}

func TestRunAsMeant(t *testing.T) {
	m := &planner{Rand: rand.New(rand.NewSource(10))}
	met := map[string]int{}
	for i := range 1500 {
		text := m.program()
		places := peopled(text)
		size := m.Intn(60)
		if i%20 == 0 {
			size = api.MaxActs
		}
		s := playableScript(m.Rand, places, size)
		if i%3 == 0 {
			s = validScript(m.Rand, places, madeUpBounds(m.Rand), size)
		}
		events := testPlaces(t, text, elements(m.Rand, 20), s, anyNumber(m.Rand))
		testTurns(t, text, events)
		for _, e := range events {
			met[fmt.Sprint("did ", e.Did)]++
			met[fmt.Sprint("took ", min(len(e.Took), 3), " did ", e.Did)]++
		}
	}
	for did := range 3 {
		for took := range 4 {
			if kind := fmt.Sprint("took ", took, " did ", did); met[kind] < 30 {
				t.Errorf("too few of a kind: %s of %v", kind, met)
			}
		}
	}
}

// testByLatest: every place makes its step k no later than Latest tells, if all of them wake at this time or later. It tells of how many steps that is asked.
func testByLatest(t *testing.T, text string, b api.Bounds, s []api.Act) int {
	t.Helper()
	if e := Valid(text, b, s); e != api.OK {
		t.Fatalf("P9: Valid(%q, %+v, %v) = %d", text, b, s, e)
	}
	events, e := Run(text, nil, s)
	if e != api.OK {
		t.Fatalf("P11: Run(%q, nil, %v): error %d", text, s, e)
	}
	made := map[[2]int]int{} // the time of each step, by place and number
	last := map[int]int{}
	for _, v := range events {
		last[v.Place] = v.At
		if v.Did == api.Stepped {
			made[[2]int{v.Place, v.N}] = v.At
		}
	}
	places := peopled(text)
	for k := range api.MaxInstants {
		latest, e := Latest(text, b, k)
		if e != api.OK {
			t.Fatalf("P10: Latest(%q, %+v, %d): error %d", text, b, k, e)
		}
		for _, place := range places {
			if at, woke := last[place]; !woke || at < latest {
				return k
			}
		}
		for _, place := range places {
			if at, found := made[[2]int{place, k}]; !found || at > latest {
				t.Fatalf("P10: of %q, %+v, %v place %d makes step %d at %d (%v), later than %d", text, b, s, place, k, at, found, latest)
			}
		}
	}
	return api.MaxInstants
}

func TestStepsByLatest(t *testing.T) {
	m := &planner{Rand: rand.New(rand.NewSource(11))}
	steps := 0
	for range 1500 {
		text := m.program()
		b := madeUpBounds(m.Rand)
		steps += testByLatest(t, text, b, validScript(m.Rand, peopled(text), b, api.MaxActs))
	}
	if steps < 10000 {
		t.Errorf("only %d steps are asked for", steps)
	}
}

// All places wake as seldom as they may, at one time or far apart, and all delays are the longest.
func TestSlowestStepsByLatest(t *testing.T) {
	texts := []string{
		counter, "int x at 3=(0 fby x);", "int x at 0=(0 fby y);int y at 1=(0 fby x);",
		"int x at 0=1;int y at 1=x;int z at 2=y;int w at 3=z;", "int x at 0=(0 fby w);int y at 1=x;int z at 2=y;int w at 3=z;",
		"int x at 0=((0 fby w)+((0 fby y)+(0 fby z)));int y at 1=((x+(0 fby w))+(0 fby z));int z at 2=((x+y)+(0 fby w));int w at 3=((x+y)+z);",
	}
	r := rand.New(rand.NewSource(12))
	steps := 0
	for _, text := range texts {
		for range 60 {
			b := madeUpBounds(r)
			b.Tmin, b.Dmin = b.Tmax, b.Dmax
			steps += testByLatest(t, text, b, validScript(r, peopled(text), b, api.MaxActs))
		}
	}
	if steps < 3000 {
		t.Errorf("only %d steps are asked for", steps)
	}
}
