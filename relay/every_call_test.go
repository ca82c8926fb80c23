package relay

import (
	"strings"
	"sync"
	"testing"

	"relay/api"
)

// bothEnd calls Check and Print and tests what holds of them at every text.
func bothEnd(t *testing.T, text string) {
	t.Helper()
	e, at := Check(text)
	printed, ep := Print(text)
	if e < api.OK || e > api.ErrLoop || ep != e {
		t.Fatalf("P1: Check(%.200q) is %d, Print %d", text, e, ep)
	}
	if at < 0 || at > len(text) || (e == api.OK || e == api.ErrLong) && at != 0 {
		t.Fatalf("P1: Check(%.200q) = %d, %d", text, e, at)
	}
	if e != api.OK && printed != "" {
		t.Fatalf("P1: Print(%.200q) = %q, %d", text, printed, e)
	}
}

func TestEveryTextOfThreeBytes(t *testing.T) {
	bytes := []byte("ainotx 09();=+<&\n#A\x00\xff")
	for _, a := range bytes {
		for _, b := range bytes {
			for _, c := range bytes {
				bothEnd(t, string([]byte{a, b, c}))
				bothEnd(t, "int x at 0=("+string([]byte{a, b, c}))
			}
		}
	}
}

// Every beginning of a text, and every text with a byte changed, taken out or put in.
func TestTextsNearARightOne(t *testing.T) {
	text := "in a;int x at 0=(if (a<1) (0 fby y) 2);int y at 1=((3 fby y)+x);bool p at 2=(not (y=x));"
	for i := range len(text) + 1 {
		bothEnd(t, text[:i])
		bothEnd(t, text[i:])
		for b := range 256 {
			put := string([]byte{byte(b)})
			bothEnd(t, text[:i]+put+text[i:])
			if i < len(text) {
				bothEnd(t, text[:i]+put+text[i+1:])
				bothEnd(t, text[:i]+text[i+1:])
			}
		}
	}
}

func TestTextsOfOnePart(t *testing.T) {
	for _, part := range []string{"(", ")", "in a;", "int x at 0=", "(not ", "(if ", "(1 fby ", "(1+", "a", "0", " ", "\n", ";", "\x00", "int x at 0=x;", "int x at 0=" + deep(16) + ";"} {
		for _, ahead := range []string{"", "int x at 0="} {
			for _, size := range []int{api.MaxText - 1, api.MaxText, api.MaxText + 1} {
				text := ahead + strings.Repeat(part, size)
				bothEnd(t, text[:size])
			}
		}
	}
}

// A text that is too long costs no more for being longer: nothing of it is read or copied.
func TestTooLongIsFoundByLength(t *testing.T) {
	text := strings.Repeat("in a;", 1<<20)
	made := testing.AllocsPerRun(100, func() {
		if e, at := Check(text); e != api.ErrLong || at != 0 {
			t.Errorf("P1: Check of %d bytes = %d, %d", len(text), e, at)
		}
		if s, e := Print(text); e != api.ErrLong || s != "" {
			t.Errorf("P1: Print of %d bytes = %q, %d", len(text), s, e)
		}
	})
	if made != 0 {
		t.Errorf("P1: a text that is too long makes %v allocations", made)
	}
}

// What other calls were told, ahead of a call or beside it, changes nothing.
func TestAnswersHangOnArgumentsAlone(t *testing.T) {
	texts := []string{"", "in a;", "in a ;int x at 02=((007 fby x)+a);", "int a at 0=true;", "bool a at 0=true;", "int x at 0=a;", "in a", filled("", api.MaxText+1), "int x at 0=(0 fby (y+1));int y at 1=x;"}
	type answer struct {
		e, ep   api.Errno
		at      int
		printed string
	}
	ask := func(text string) answer {
		var a answer
		a.e, a.at = Check(text)
		a.printed, a.ep = Print(text)
		return a
	}
	first := make([]answer, len(texts))
	for i, text := range texts {
		first[i] = ask(text)
	}
	var all sync.WaitGroup
	for range 8 {
		all.Go(func() {
			for n := range 200 {
				i := n * 7 % len(texts)
				if got := ask(texts[i]); got != first[i] {
					t.Errorf("P2: %q is answered %+v, then %+v", texts[i], first[i], got)
				}
			}
		})
	}
	all.Wait()
}
