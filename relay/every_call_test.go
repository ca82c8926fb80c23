package relay

import (
	"fmt"
	"reflect"
	"strings"
	"sync"
	"testing"

	"relay/api"
)

// allEnd makes the calls and tests what holds of them at every text.
func allEnd(t *testing.T, text string) {
	t.Helper()
	e, at := Check(text)
	if e < api.OK || e > api.ErrLoop {
		t.Fatalf("P1: Check(%.200q) is %d", text, e)
	}
	if at < 0 || at > len(text) || (e == api.OK || e == api.ErrLong) && at != 0 {
		t.Fatalf("P1: Check(%.200q) = %d, %d", text, e, at)
	}
	printed, ep := Print(text)
	if ep != e || e != api.OK && printed != "" {
		t.Fatalf("P1: Print(%.200q) = %q, %d, want the error %d", text, printed, ep, e)
	}
	routes, el := Links(text)
	if el != e || e != api.OK && len(routes) != 0 {
		t.Fatalf("P1: Links(%.200q) = %v, %d, want the error %d", text, routes, el, e)
	}
	rows, es := Streams(text, [][]int{{1, 2}}, 3)
	if es != e || e != api.OK && len(rows) != 0 {
		t.Fatalf("P1: Streams(%.200q) = %v, %d, want the error %d", text, rows, es, e)
	}
	for _, row := range rows {
		if len(row) != 3 {
			t.Fatalf("P1: Streams(%.200q) has the row %v", text, row)
		}
	}
}

func TestEveryTextOfThreeBytes(t *testing.T) {
	bytes := []byte("ainotx 09();=+<&\n#A\x00\xff")
	for _, a := range bytes {
		for _, b := range bytes {
			for _, c := range bytes {
				allEnd(t, string([]byte{a, b, c}))
				allEnd(t, "int x at 0=("+string([]byte{a, b, c}))
			}
		}
	}
}

// Every beginning of a text, and every text with a byte changed, taken out or put in.
func TestTextsNearARightOne(t *testing.T) {
	text := "in a;int x at 0=(if (a<1) (0 fby y) 2);int y at 1=((3 fby y)+x);bool p at 2=(not (y=x));"
	for i := range len(text) + 1 {
		allEnd(t, text[:i])
		allEnd(t, text[i:])
		for b := range 256 {
			put := string([]byte{byte(b)})
			allEnd(t, text[:i]+put+text[i:])
			if i < len(text) {
				allEnd(t, text[:i]+put+text[i+1:])
				allEnd(t, text[:i]+text[i+1:])
			}
		}
	}
}

func TestTextsOfOnePart(t *testing.T) {
	for _, part := range []string{"(", ")", "in a;", "int x at 0=", "(not ", "(if ", "(1 fby ", "(1+", "a", "0", " ", "\n", ";", "\x00", "int x at 0=x;", "int x at 0=" + deep(16) + ";"} {
		for _, ahead := range []string{"", "int x at 0="} {
			for _, size := range []int{api.MaxText - 1, api.MaxText, api.MaxText + 1} {
				text := ahead + strings.Repeat(part, size)
				allEnd(t, text[:size])
			}
		}
	}
}

// A text that is too long costs no more for being longer: nothing of it is read or copied.
func TestTooLongIsFoundByLength(t *testing.T) {
	text := strings.Repeat("in a;", 1<<20)
	made := testing.AllocsPerRun(100, func() {
		if e, at := Check(text); e != api.ErrLong || at != 0 {
			t.Errorf("P1: Check of %d bytes = %d, %d", len(text), e, at)
		}
		if s, e := Print(text); e != api.ErrLong || s != "" {
			t.Errorf("P1: Print of %d bytes = %q, %d", len(text), s, e)
		}
		if l, e := Links(text); e != api.ErrLong || len(l) != 0 {
			t.Errorf("P1: Links of %d bytes = %v, %d", len(text), l, e)
		}
		if rows, e := Streams(text, nil, -1); e != api.ErrLong || len(rows) != 0 {
			t.Errorf("P1: Streams of %d bytes = %v, %d", len(text), rows, e)
		}
	})
	if made != 0 {
		t.Errorf("P1: a text that is too long makes %v allocations", made)
	}
}

// What other calls were told, ahead of a call or beside it, changes nothing.
func TestAnswersHangOnArgumentsAlone(t *testing.T) {
	texts := []string{"", "in a;", "in a ;int x at 02=((007 fby x)+a);", "int a at 0=true;", "bool a at 0=true;", "int x at 0=a;", "in a", filled("", api.MaxText+1), "int x at 0=(0 fby (y+1));int y at 1=x;"}
	ask := func(text string) string {
		e, at := Check(text)
		printed, ep := Print(text)
		routes, el := Links(text)
		rows, es := Streams(text, [][]int{{1, 2}}, len(text)%5-1)
		return fmt.Sprint(e, at, printed, ep, routes, el, rows, es)
	}
	first := make([]string, len(texts))
	for i, text := range texts {
		first[i] = ask(text)
	}
	var all sync.WaitGroup
	for range 8 {
		all.Go(func() {
			for n := range 200 {
				i := n * 7 % len(texts)
				if got := ask(texts[i]); got != first[i] {
					t.Errorf("P2: %q is answered %s, then %s", texts[i], first[i], got)
				}
			}
		})
	}
	all.Wait()
}

// handed: lists with spare room in each of them and behind them all, and nothing of it empty.
func handed() [][]int {
	all := [][]int{{1, 2, 3, 4, 5}, {6, 7, 8, 9}, {10, 11}, {12}, {13}}
	all[0] = all[0][:3]
	all[1] = all[1][:1]
	all[2] = all[2][:0]
	return all[:4]
}

// whole: the lists with all that stands in their spare room.
func whole(lists [][]int) [][]int {
	all := [][]int{}
	for _, list := range lists[:cap(lists)] {
		all = append(all, list[:cap(list)])
	}
	return all
}

func TestStreamsWriteIntoNothing(t *testing.T) {
	for _, text := range []string{"", "in a;in b;in c;in d;int x at 0=((a+b)+(c+d));", "in a;int x at 0=a;int y at 0=(1 fby a);", "in a;in b;int x at 0=(0 fby a);int y at 1=b;", "in a;int x at 0=true;"} {
		for _, n := range []int{-1, 0, 1, 3, 6, api.MaxInstants, api.MaxInstants + 1} {
			ins := handed()
			Streams(text, ins, n)
			if !reflect.DeepEqual(whole(ins), whole(handed())) {
				t.Errorf("P2: Streams(%q, .., %d) leaves %v", text, n, whole(ins))
			}
		}
	}
}

// fill writes into a list and its spare room.
func fill(list []int, value int) {
	list = list[:cap(list)]
	for i := range list {
		list[i] = value
	}
}

func TestStreamsShareNothing(t *testing.T) {
	for _, n := range []int{0, 1, 2, 3, 5, api.MaxInstants} {
		const text = "in a;int x at 0=a;int y at 1=a;int z at 1=x;int w at 0=5;int v at 0=w;"
		ins := handed()
		want, _ := Streams(text, handed(), n)
		rows, e := Streams(text, ins, n)
		if e != api.OK || len(rows) != 5 {
			t.Fatalf("P6: Streams(%q, .., %d) = %v, %d", text, n, rows, e)
		}
		for i := range rows {
			fill(rows[i], -9)
			for k := i + 1; k < len(rows); k++ {
				if !reflect.DeepEqual(rows[k], want[k]) {
					t.Errorf("P2: rows %d and %d of %d share something", i, k, n)
				}
			}
		}
		for i := range rows[:cap(rows)] {
			rows[:cap(rows)][i] = nil
		}
		if !reflect.DeepEqual(whole(ins), whole(handed())) {
			t.Errorf("P2: the rows of %d share something with what is handed in: %v", n, whole(ins))
		}
		if again, _ := Streams(text, ins, n); !reflect.DeepEqual(again, want) {
			t.Errorf("P2: a call answers %v, the next %v", want, again)
		}
	}
}

// What is handed in may change when the call has ended: what came out stays.
func TestStreamsKeepNothing(t *testing.T) {
	ins := [][]int{{1, 2, 3}, {4, 5, 6}}
	rows, _ := Streams("in a;in b;int x at 0=a;int y at 1=b;", ins, 3)
	fill(ins[0], 7)
	ins[1] = nil
	if !reflect.DeepEqual(rows, [][]int{{1, 2, 3}, {4, 5, 6}}) {
		t.Errorf("P2: the rows are %v when the inputs have changed", rows)
	}
}

func TestLinksShareNothing(t *testing.T) {
	const text = "int x at 0=1;int y at 1=x;int z at 2=(0 fby x);"
	first, _ := Links(text)
	second, _ := Links(text)
	first = first[:cap(first)]
	for i := range first {
		first[i] = api.Route{From: 9, To: 9}
	}
	third, _ := Links(text)
	want := []api.Route{prompt(0, 1), late(0, 2)}
	if !reflect.DeepEqual(second, want) || !reflect.DeepEqual(third, want) {
		t.Errorf("P2: links are %v and %v when others have changed", second, third)
	}
}
