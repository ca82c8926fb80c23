package scan

import (
	"reflect"
	"strings"
	"testing"
)

func TestTokens(t *testing.T) {
	for _, c := range []struct {
		text string
		want []Token
	}{
		{"", []Token{{End, 0, ""}}},
		{" \n ", []Token{{End, 3, ""}}},
		{"in a;", []Token{{Kept, 0, "in"}, {Name, 3, "a"}, {Sign, 4, ";"}, {End, 5, ""}}},
		{"at0=007", []Token{{Kept, 0, "at"}, {Number, 2, "0"}, {Sign, 3, "="}, {Number, 4, "007"}, {End, 7, ""}}},
		{"a\nb", []Token{{Name, 0, "a"}, {Name, 2, "b"}, {End, 3, ""}}},
		{"1a2", []Token{{Number, 0, "1"}, {Name, 1, "a"}, {Number, 2, "2"}, {End, 3, ""}}},
		{"((", []Token{{Sign, 0, "("}, {Sign, 1, "("}, {End, 2, ""}}},
		{"aB##", []Token{{Name, 0, "a"}, {Wrong, 1, "B"}, {Wrong, 2, "#"}, {Wrong, 3, "#"}, {End, 4, ""}}},
		{"\x00\t\r\xff", []Token{{Wrong, 0, "\x00"}, {Wrong, 1, "\t"}, {Wrong, 2, "\r"}, {Wrong, 3, "\xff"}, {End, 4, ""}}},
	} {
		if got := Tokens(c.text); !reflect.DeepEqual(got, c.want) {
			t.Errorf("Tokens(%q) = %v, want %v", c.text, got, c.want)
		}
	}
}

func TestKindOfOneToken(t *testing.T) {
	for _, c := range []struct {
		kind  int
		texts string
	}{
		{Kept, "in int bool at if fby not true false"},
		{Name, "i inn ints bools fb nott tru atat eightltr"},
		{Number, "0 9 00 000000000000000000 999999999999999999"},
		{Sign, "( ) ; = + - * / < & |"},
		{Wrong, "nineltrsx falsefalse 0000000000000000000 1000000000000000000 > ! , . : [ ] { } ' \" _ A Z @ ` ^ % ~ ? \\ $ #"},
	} {
		for _, text := range strings.Fields(c.texts) {
			want := []Token{{c.kind, 0, text}, {End, len(text), ""}}
			if got := Tokens(text); !reflect.DeepEqual(got, want) {
				t.Errorf("Tokens(%q) = %v, want %v", text, got, want)
			}
		}
	}
}
