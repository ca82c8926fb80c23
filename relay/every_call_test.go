package relay

import (
	"fmt"
	"math/rand"
	"reflect"
	"slices"
	"strings"
	"sync"
	"testing"

	"relay/api"
)

// allEnd makes the calls and tests what holds of them at every text.
func allEnd(t *testing.T, text string) {
	t.Helper()
	e, at := Check(text)
	if e < api.OK || e > api.ErrLoop {
		t.Fatalf("P1: Check(%.200q) is %d", text, e)
	}
	if at < 0 || at > len(text) || (e == api.OK || e == api.ErrLong) && at != 0 {
		t.Fatalf("P1: Check(%.200q) = %d, %d", text, e, at)
	}
	printed, ep := Print(text)
	if ep != e || e != api.OK && printed != "" {
		t.Fatalf("P1: Print(%.200q) = %q, %d, want the error %d", text, printed, ep, e)
	}
	routes, el := Links(text)
	if el != e || e != api.OK && len(routes) != 0 {
		t.Fatalf("P1: Links(%.200q) = %v, %d, want the error %d", text, routes, el, e)
	}
	rows, es := Streams(text, [][]int{{1, 2}}, 3)
	if es != e || e != api.OK && len(rows) != 0 {
		t.Fatalf("P1: Streams(%.200q) = %v, %d, want the error %d", text, rows, es, e)
	}
	for _, row := range rows {
		if len(row) != 3 {
			t.Fatalf("P1: Streams(%.200q) has the row %v", text, row)
		}
	}
	place := len(text)%6 - 1
	c, ec := Code(text, place)
	if e != api.OK && ec != e || e == api.OK && ec != api.OK && ec != api.ErrPlace {
		t.Fatalf("P1: Code(%.200q, %d): %d, want the error %d", text, place, ec, e)
	}
	if (ec == api.OK) != (len(c.Out) > 0) || ec != api.OK && len(c.Ops)+len(c.Cells)+len(c.Next) != 0 {
		t.Fatalf("P1: Code(%.200q, %d) = %v, %d", text, place, c, ec)
	}
	scriptsEnd(t, text, ec)
}

// scriptsEnd makes the calls that go with scripts and bounds. The place of the script is that of which Code tells coded.
func scriptsEnd(t *testing.T, text string, coded api.Errno) {
	t.Helper()
	e := coded
	if coded == api.ErrPlace {
		e = api.ErrScript
	}
	place := len(text)%6 - 1
	s := [2]api.Act{{Place: place}, {Place: place, At: 1}}
	b := api.Bounds{Tmin: 1, Tmax: 1}
	if got := Valid(text, b, s[:]); got != e {
		t.Fatalf("P1: Valid(%.200q, .., %v) = %d, want %d", text, s, got, e)
	}
	if events, got := Run(text, [][]int{{1, 2}}, s[:]); got != e || e == api.OK && len(events) != 2 || e != api.OK && len(events) != 0 {
		t.Fatalf("P1: Run(%.200q, .., %v) = %v, %d, want the error %d", text, s, events, got, e)
	}
	if coded == api.ErrPlace {
		e = api.OK
	}
	if at, got := Latest(text, b, 1); got != e || (e == api.OK) != (at > 0) || e != api.OK && at != 0 {
		t.Fatalf("P1: Latest(%.200q, .., 1) = %d, %d, want the error %d", text, at, got, e)
	}
}

func TestEveryTextOfThreeBytes(t *testing.T) {
	bytes := []byte("ainotx 09();=+<&\n#A\x00\xff")
	for _, a := range bytes {
		for _, b := range bytes {
			for _, c := range bytes {
				allEnd(t, string([]byte{a, b, c}))
				allEnd(t, "int x at 0=("+string([]byte{a, b, c}))
			}
		}
	}
}

// Every beginning of a text, and every text with a byte changed, taken out or put in.
func TestTextsNearARightOne(t *testing.T) {
	text := "in a;int x at 0=(if (a<1) (0 fby y) 2);int y at 1=((3 fby y)+x);bool p at 2=(not (y=x));"
	for i := range len(text) + 1 {
		allEnd(t, text[:i])
		allEnd(t, text[i:])
		for b := range 256 {
			put := string([]byte{byte(b)})
			allEnd(t, text[:i]+put+text[i:])
			if i < len(text) {
				allEnd(t, text[:i]+put+text[i+1:])
				allEnd(t, text[:i]+text[i+1:])
			}
		}
	}
}

func TestTextsOfOnePart(t *testing.T) {
	for _, part := range []string{"(", ")", "in a;", "int x at 0=", "(not ", "(if ", "(1 fby ", "(1+", "a", "0", " ", "\n", ";", "\x00", "int x at 0=x;", "int x at 0=" + deep(16) + ";"} {
		for _, ahead := range []string{"", "int x at 0="} {
			for _, size := range []int{api.MaxText - 1, api.MaxText, api.MaxText + 1} {
				text := ahead + strings.Repeat(part, size)
				allEnd(t, text[:size])
			}
		}
	}
}

// A text that is too long costs no more for being longer: nothing of it is read or copied.
func TestTooLongIsFoundByLength(t *testing.T) {
	text := strings.Repeat("in a;", 1<<20)
	long := make([]api.Act, 1<<20)
	made := testing.AllocsPerRun(100, func() {
		if e, at := Check(text); e != api.ErrLong || at != 0 {
			t.Errorf("P1: Check of %d bytes = %d, %d", len(text), e, at)
		}
		if s, e := Print(text); e != api.ErrLong || s != "" {
			t.Errorf("P1: Print of %d bytes = %q, %d", len(text), s, e)
		}
		if l, e := Links(text); e != api.ErrLong || len(l) != 0 {
			t.Errorf("P1: Links of %d bytes = %v, %d", len(text), l, e)
		}
		if rows, e := Streams(text, nil, -1); e != api.ErrLong || len(rows) != 0 {
			t.Errorf("P1: Streams of %d bytes = %v, %d", len(text), rows, e)
		}
		if c, e := Code(text, -1); e != api.ErrLong || len(c.Ops) != 0 {
			t.Errorf("P1: Code of %d bytes = %v, %d", len(text), c, e)
		}
		if e := Valid(text, api.Bounds{}, long); e != api.ErrLong {
			t.Errorf("P1: Valid of %d bytes = %d", len(text), e)
		}
		if at, e := Latest(text, api.Bounds{}, -1); e != api.ErrLong || at != 0 {
			t.Errorf("P1: Latest of %d bytes = %d, %d", len(text), at, e)
		}
		if events, e := Run(text, nil, long); e != api.ErrLong || len(events) != 0 {
			t.Errorf("P1: Run of %d bytes: %d events, %d", len(text), len(events), e)
		}
	})
	if made != 0 {
		t.Errorf("P1: a text that is too long makes %v allocations", made)
	}
}

// What other calls were told, ahead of a call or beside it, changes nothing.
func TestAnswersHangOnArgumentsAlone(t *testing.T) {
	texts := []string{"", "in a;", "in a ;int x at 02=((007 fby x)+a);", "int a at 0=true;", "bool a at 0=true;", "int x at 0=a;", "in a", filled("", api.MaxText+1), "int x at 0=(0 fby (y+1));int y at 1=x;", "int x at 0=((4 fby y)+(5 fby x));int y at 1=(x+1);"}
	ask := func(text string) string {
		e, at := Check(text)
		printed, ep := Print(text)
		routes, el := Links(text)
		rows, es := Streams(text, [][]int{{1, 2}}, len(text)%5-1)
		c, ec := Code(text, len(text)%3)
		out, next, ex := Exec(c, len(text)%2, c.Cells, []int{1, 2}, []int{3})
		b := api.Bounds{Tmin: 1, Tmax: 2, Dmax: len(text) % 2}
		s := script("0@0 1@0 0@1 1@1 0@2 1@2")
		latest, et := Latest(text, b, len(text)%5-1)
		events, er := Run(text, [][]int{{1, 2}}, s)
		return fmt.Sprint(e, at, printed, ep, routes, el, rows, es, c, ec, out, next, ex, Valid(text, b, s), latest, et, events, er)
	}
	first := make([]string, len(texts))
	for i, text := range texts {
		first[i] = ask(text)
	}
	var all sync.WaitGroup
	for range 8 {
		all.Go(func() {
			for n := range 200 {
				i := n * 7 % len(texts)
				if got := ask(texts[i]); got != first[i] {
					t.Errorf("P2: %q is answered %s, then %s", texts[i], first[i], got)
				}
			}
		})
	}
	all.Wait()
}

// handed: lists with spare room in each of them and behind them all, and nothing of it empty.
func handed() [][]int {
	all := [][]int{{1, 2, 3, 4, 5}, {6, 7, 8, 9}, {10, 11}, {12}, {13}}
	all[0] = all[0][:3]
	all[1] = all[1][:1]
	all[2] = all[2][:0]
	return all[:4]
}

// whole: the lists with all that stands in their spare room.
func whole(lists [][]int) [][]int {
	all := [][]int{}
	for _, list := range lists[:cap(lists)] {
		all = append(all, list[:cap(list)])
	}
	return all
}

func TestStreamsWriteIntoNothing(t *testing.T) {
	for _, text := range []string{"", "in a;in b;in c;in d;int x at 0=((a+b)+(c+d));", "in a;int x at 0=a;int y at 0=(1 fby a);", "in a;in b;int x at 0=(0 fby a);int y at 1=b;", "in a;int x at 0=true;"} {
		for _, n := range []int{-1, 0, 1, 3, 6, api.MaxInstants, api.MaxInstants + 1} {
			ins := handed()
			Streams(text, ins, n)
			if !reflect.DeepEqual(whole(ins), whole(handed())) {
				t.Errorf("P2: Streams(%q, .., %d) leaves %v", text, n, whole(ins))
			}
		}
	}
}

// fill writes into a list and its spare room.
func fill(list []int, value int) {
	list = list[:cap(list)]
	for i := range list {
		list[i] = value
	}
}

func TestStreamsShareNothing(t *testing.T) {
	for _, n := range []int{0, 1, 2, 3, 5, api.MaxInstants} {
		const text = "in a;int x at 0=a;int y at 1=a;int z at 1=x;int w at 0=5;int v at 0=w;"
		ins := handed()
		want, _ := Streams(text, handed(), n)
		rows, e := Streams(text, ins, n)
		if e != api.OK || len(rows) != 5 {
			t.Fatalf("P6: Streams(%q, .., %d) = %v, %d", text, n, rows, e)
		}
		for i := range rows {
			fill(rows[i], -9)
			for k := i + 1; k < len(rows); k++ {
				if !reflect.DeepEqual(rows[k], want[k]) {
					t.Errorf("P2: rows %d and %d of %d share something", i, k, n)
				}
			}
		}
		for i := range rows[:cap(rows)] {
			rows[:cap(rows)][i] = nil
		}
		if !reflect.DeepEqual(whole(ins), whole(handed())) {
			t.Errorf("P2: the rows of %d share something with what is handed in: %v", n, whole(ins))
		}
		if again, _ := Streams(text, ins, n); !reflect.DeepEqual(again, want) {
			t.Errorf("P2: a call answers %v, the next %v", want, again)
		}
	}
}

// What is handed in may change when the call has ended: what came out stays.
func TestStreamsKeepNothing(t *testing.T) {
	ins := [][]int{{1, 2, 3}, {4, 5, 6}}
	rows, _ := Streams("in a;in b;int x at 0=a;int y at 1=b;", ins, 3)
	fill(ins[0], 7)
	ins[1] = nil
	if !reflect.DeepEqual(rows, [][]int{{1, 2, 3}, {4, 5, 6}}) {
		t.Errorf("P2: the rows are %v when the inputs have changed", rows)
	}
}

func TestLinksShareNothing(t *testing.T) {
	const text = "int x at 0=1;int y at 1=x;int z at 2=(0 fby x);"
	first, _ := Links(text)
	second, _ := Links(text)
	first = first[:cap(first)]
	for i := range first {
		first[i] = api.Route{From: 9, To: 9}
	}
	third, _ := Links(text)
	want := []api.Route{prompt(0, 1), late(0, 2)}
	if !reflect.DeepEqual(second, want) || !reflect.DeepEqual(third, want) {
		t.Errorf("P2: links are %v and %v when others have changed", second, third)
	}
}

// Exec at wild arguments ends, and tells of code that is too long without going through it.
func TestExecEnds(t *testing.T) {
	r := rand.New(rand.NewSource(6))
	for range 20000 {
		c := api.Code{Cells: anyNumbers(r, r.Intn(3)), Next: anyNumbers(r, r.Intn(3)), Out: anyNumbers(r, r.Intn(3))}
		for range r.Intn(6) {
			c.Ops = append(c.Ops, api.Op{Kind: r.Intn(17) - 1, A: anyNumber(r), B: anyNumber(r), C: anyNumber(r)})
		}
		out, next, e := Exec(c, anyNumber(r), anyNumbers(r, r.Intn(3)), anyNumbers(r, r.Intn(3)), anyNumbers(r, r.Intn(3)))
		if e != api.OK && e != api.ErrCode && e != api.ErrArg || e != api.OK && len(out)+len(next) != 0 {
			t.Fatalf("P1: Exec(%v, ..) = %v, %v, %d", c, out, next, e)
		}
	}
	many, long := make([]api.Op, 1<<20), make([]int, 1<<20)
	made := testing.AllocsPerRun(100, func() {
		for _, c := range [3]api.Code{{Ops: many}, {Ops: many[:1], Cells: long, Next: long}, {Ops: many[:1], Out: long}} {
			if out, next, e := Exec(c, 0, c.Cells, nil, nil); e != api.ErrCode || len(out)+len(next) != 0 {
				t.Errorf("P1: Exec of %s = %d", described(c), e)
			}
		}
	})
	if made != 0 {
		t.Errorf("P1: code that is too long makes %v allocations", made)
	}
}

// step: arguments of Exec, with spare room behind each list, and nothing of it empty.
type step struct {
	c                api.Code
	cells, ins, wire []int
}

func handedStep() step {
	ops := []api.Op{{Kind: api.Cell}, {Kind: api.In}, {Kind: api.Link}, {Kind: api.First}, {Kind: api.Add, A: 0, B: 1}, {Kind: api.Const, A: 8}, {Kind: api.Const, A: 9}}
	c := api.Code{Ops: ops[:5], Cells: []int{1, 2, 3, 4}[:2], Next: []int{4, 2, 5, 6}[:2], Out: []int{3, 4, 0, 5, 6}[:3]}
	return step{c, []int{11, 12, 13, 14}[:2], []int{21, 22, 23}[:1], []int{31, 32, 33}[:1]}
}

// whole: all that is handed in, with what stands in the spare room.
func (s step) whole() string {
	lists := [][]int{}
	for _, list := range [][]int{s.c.Cells, s.c.Next, s.c.Out, s.cells, s.ins, s.wire} {
		lists = append(lists, list[:cap(list)])
	}
	return fmt.Sprint(s.c.Ops[:cap(s.c.Ops)], lists)
}

// Whether it answers or tells of an error; and the lists that come out may be written into.
func TestExecWritesIntoNothing(t *testing.T) {
	for _, n := range []int{-1, 0, 1, most} {
		for cells := range 4 {
			for _, kind := range []int{api.Cell, api.Const, -1, 15} {
				s, want := handedStep(), handedStep()
				s.c.Ops[0].Kind, want.c.Ops[0].Kind = kind, kind
				out, next, _ := Exec(s.c, n, s.cells[:cells], s.ins, s.wire)
				if s.whole() != want.whole() {
					t.Errorf("P2: Exec(.., %d, ..) leaves %s", n, s.whole())
				}
				fill(out, -9)
				fill(next, -9)
				if s.whole() != want.whole() {
					t.Errorf("P2: what comes out of Exec(.., %d, ..) shares something with what is handed in: %s", n, s.whole())
				}
			}
		}
	}
}

func TestExecSharesNothing(t *testing.T) {
	s := handedStep()
	for _, same := range [][]int{{}, {4}, {4, 0}} {
		s.c.Cells, s.c.Next, s.c.Out = make([]int, len(same)+1), append([]int{1}, same...), append([]int{1}, same...)
		cells := []int{11, 12, 13}[:len(same)+1]
		want, _, e := Exec(s.c, 0, cells, s.ins, s.wire)
		if e != api.OK || len(want) == 0 {
			t.Fatalf("P7: Exec(%v, ..): %v, %d", s.c, want, e)
		}
		first, second, _ := Exec(s.c, 0, cells, s.ins, s.wire)
		fill(first, -9)
		third, fourth, _ := Exec(s.c, 0, cells, s.ins, s.wire)
		fill(fourth, -9)
		fill(s.ins, -9)
		fill(cells, -9)
		for _, list := range [][]int{second, third} {
			if !reflect.DeepEqual(list, want) {
				t.Errorf("P2: %v came out, and is %v when other lists have changed", want, list)
			}
		}
	}
}

// wipe writes into one list of code, and its spare room.
func wipe(c api.Code, which int) {
	fill([][]int{nil, c.Cells, c.Next, c.Out}[which], -9)
	ops := c.Ops[:cap(c.Ops)]
	for i := range ops {
		if which == 0 {
			ops[i] = api.Op{Kind: -9}
		}
	}
}

func TestCodeSharesNothing(t *testing.T) {
	for _, text := range []string{"int x at 1=3;", "in a;int x at 1=(2 fby a);int y at 1=(x+(3 fby y));", "int x at 0=1;int y at 1=((4 fby x)+(1 fby (2 fby y)));int z at 1=(5 fby (x+y));"} {
		want, e := Code(text, 1)
		if e != api.OK {
			t.Fatalf("P8: Code(%q, 1): error %d", text, e)
		}
		for which := range 4 {
			first, _ := Code(text, 1)
			second, _ := Code(text, 1)
			wipe(first, which)
			third, _ := Code(text, 1)
			if !reflect.DeepEqual(second, want) || !reflect.DeepEqual(third, want) {
				t.Errorf("P2: Code(%q, 1) is %v and %v when another answer has changed", text, second, third)
			}
			wipe(second, which)
			for _, part := range [2]api.Code{first, second} {
				whole := []bool{reflect.DeepEqual(part.Ops, want.Ops), reflect.DeepEqual(part.Cells, want.Cells), reflect.DeepEqual(part.Next, want.Next), reflect.DeepEqual(part.Out, want.Out)}
				for list, is := range whole {
					if list != which && !is {
						t.Errorf("P2: lists %d and %d of Code(%q, 1) share something", which, list, text)
					}
				}
			}
		}
	}
}

// The calls that go with scripts and bounds end at wild arguments, and tell of a script that is too long without going through it.
func TestScriptsEnd(t *testing.T) {
	r := rand.New(rand.NewSource(13))
	met := map[api.Errno]int{}
	for range 20000 {
		b := api.Bounds{Tmin: anyNumber(r), Tmax: anyNumber(r), Dmin: anyNumber(r), Dmax: anyNumber(r)}
		if r.Intn(2) == 0 {
			b = madeUpBounds(r)
		}
		var s []api.Act
		for range r.Intn(5) {
			s = append(s, api.Act{Place: r.Intn(2), At: anyNumber(r), Ack: anyNumber(r), Data: anyNumber(r)})
		}
		k := anyNumber(r)
		e := Valid(counter, b, s)
		at, el := Latest(counter, b, k)
		events, er := Run(counter, nil, s)
		met[e]++
		met[er]++
		if (e == api.ErrArg) == secondFit(b) || el != api.OK && el != api.ErrArg || (el == api.OK) != (at > 0) || at < 0 {
			t.Fatalf("P1: Valid(.., %+v, %v) = %d, Latest(.., %d) = %d, %d", b, s, e, k, at, el)
		}
		if er != api.OK && er != api.ErrScript || er == api.OK && len(events) != len(s) || er != api.OK && len(events) != 0 {
			t.Fatalf("P1: Run(.., %v) = %v, %d", s, events, er)
		}
	}
	for _, e := range []api.Errno{api.OK, api.ErrArg, api.ErrScript} {
		if met[e] < 500 {
			t.Errorf("too few of a kind: %v", met)
		}
	}
	long := make([]api.Act, 1<<22)
	costs := func(s []api.Act) float64 {
		return testing.AllocsPerRun(50, func() {
			events, e := Run(counter, nil, s)
			if ev := Valid(counter, api.Bounds{Tmin: 1, Tmax: 1}, s); e != api.ErrScript || len(events) != 0 || ev != api.ErrScript {
				t.Errorf("P1: Run of %d acts: %d events, %d; Valid: %d", len(s), len(events), e, ev)
			}
		})
	}
	if few, many := costs(long[:api.MaxActs+1]), costs(long); few != many {
		t.Errorf("P1: scripts that are too long make %v and %v allocations", few, many)
	}
}

// handedScript: acts with more of them in the spare room.
func handedScript() []api.Act {
	return script("0@0 0@1 1@1 1@2 0@2 0@3 0@4 1@5 0@9,9,9 7@7,7,7")[:8]
}

// noisy: two places with links both ways, several values at each, and inputs.
const noisy = "in a;int x at 0=((0 fby y)+a);int y at 1=(x+1);int z at 0=(x*2);int w at 1=((3 fby z)-y);"

func TestScriptsAreNotWrittenInto(t *testing.T) {
	for _, text := range []string{noisy, counter, "", "in a;int x at 0=a;", "int x at 0=true;"} {
		for size := range 11 {
			for _, b := range []api.Bounds{{Tmin: 1, Tmax: 9}, {}} {
				s, ins := handedScript()[:size], handed()
				Valid(text, b, s)
				Run(text, ins, s)
				if !slices.Equal(s[:cap(s)], handedScript()[:cap(s)]) || !reflect.DeepEqual(whole(ins), whole(handed())) {
					t.Errorf("P2: Valid and Run of %q with %d acts leave %v, %v", text, size, s[:cap(s)], whole(ins))
				}
			}
		}
	}
}

// lists: all lists of numbers in events.
func lists(events []api.Event) [][]int {
	var all [][]int
	for _, e := range events {
		all = append(all, e.Took, e.Values)
	}
	return all
}

func TestRunSharesNothing(t *testing.T) {
	want, e := Run(noisy, handed(), handedScript())
	if e != api.OK || shortAll(want) != "S0 P0=1,2 S0<0 P0=2,1<2 S1<1 P1=4,8 W S1<0" {
		t.Fatalf("P11: Run(%q, ..) = %v, %d", noisy, shortAll(want), e)
	}
	for i := range lists(want) {
		s, ins := handedScript(), handed()
		first, _ := Run(noisy, ins, s)
		second, _ := Run(noisy, ins, s)
		fill(lists(first)[i], -9)
		for k, list := range lists(first) {
			if k != i && !slices.Equal(list, lists(want)[k]) {
				t.Errorf("P2: lists %d and %d of the events share something", i, k)
			}
		}
		third, _ := Run(noisy, ins, s)
		if !reflect.DeepEqual(second, want) || !reflect.DeepEqual(third, want) {
			t.Errorf("P2: the events are %v and %v when others have changed", second, third)
		}
		if !slices.Equal(s[:cap(s)], handedScript()[:cap(s)]) || !reflect.DeepEqual(whole(ins), whole(handed())) {
			t.Errorf("P2: the events share something with what is handed in: %v, %v", s[:cap(s)], whole(ins))
		}
	}
}

// What is handed in may change when the call has ended, and the events too: other events stay.
func TestRunKeepsNothing(t *testing.T) {
	s, ins := handedScript(), handed()
	want, _ := Run(noisy, ins, s)
	first, _ := Run(noisy, ins, s)
	second, _ := Run(noisy, ins, s)
	s = s[:cap(s)]
	for i := range s {
		s[i] = api.Act{Place: 9, At: 9, Ack: 9, Data: 9}
	}
	for i := range ins {
		fill(ins[i], -9)
		ins[i] = nil
	}
	if !reflect.DeepEqual(first, want) {
		t.Errorf("P2: the events are %v when what was handed in has changed", first)
	}
	first = first[:cap(first)]
	for i := range first {
		first[i] = api.Event{Place: 9, At: 9, Did: 9, N: 9}
	}
	if !reflect.DeepEqual(second, want) {
		t.Errorf("P2: the events are %v when others have changed", second)
	}
}
