package relay

import (
	"strings"
	"testing"

	"relay/api"
)

func TestPrint(t *testing.T) {
	for _, c := range []struct{ text, want string }{
		{"", ""},
		{" \n ", ""},
		{"in\n\na ; ", "in a;\n"},
		{"in a ;int x at 02=((007 fby x)+a);", "in a;\nint x at 2 = ((7 fby x) + a);\n"},
		{"int x at 000=00;in a;bool p at 03=false;", "int x at 0 = 0;\nin a;\nbool p at 3 = false;\n"},
		{"int x at 0=999999999999999999;int y at 0=000000000000000010;", "int x at 0 = 999999999999999999;\nint y at 0 = 10;\n"},
		{"bool p at 1=(not(not true));", "bool p at 1 = (not (not true));\n"},
		{"int x at 1=(if(1<2)3(if true 4 5));", "int x at 1 = (if (1 < 2) 3 (if true 4 5));\n"},
		{"bool p at 1=(  true\nfby(false fby(p|p)) ) ;", "bool p at 1 = (true fby (false fby (p | p)));\n"},
		{"int x at 1=((((1+2)-3)*4)/5);", "int x at 1 = ((((1 + 2) - 3) * 4) / 5);\n"},
		{"bool p at 1=((1<2)&((1=2)|true));", "bool p at 1 = ((1 < 2) & ((1 = 2) | true));\n"},
	} {
		if got, e := Print(c.text); got != c.want || e != api.OK {
			t.Errorf("P4: Print(%q) = %q, %d, want %q", c.text, got, e, c.want)
		}
	}
}

// A text of MaxText bytes may be printed as more of them.
func TestPrintLongerThanMaxText(t *testing.T) {
	wide := "(1+1)"
	for i := 0; i < 10; i++ {
		wide = "(" + wide + "+1)"
	}
	text := ""
	want := ""
	for i := 0; i < 12; i++ {
		name := string([]byte{'x', byte('a' + i)})
		text += "int " + name + " at 0=(" + wide + "+" + wide + ");"
		spread := strings.ReplaceAll(wide, "+", " + ")
		want += "int " + name + " at 0 = (" + spread + " + " + spread + ");\n"
	}
	if len(text) > api.MaxText || len(want) <= api.MaxText {
		t.Fatalf("%d and %d bytes are no test", len(text), len(want))
	}
	if got, e := Print(text); got != want || e != api.OK {
		t.Errorf("P4: Print(%q) = %q, %d", text, got, e)
	}
}

func TestPrintTellsTheErrorOfCheck(t *testing.T) {
	for e, text := range []string{
		api.ErrLong:  filled("in a;", api.MaxText+1),
		api.ErrText:  "in a;in b",
		api.ErrMany:  "in a;in b;in c;in d;in e;",
		api.ErrName:  "in a;in a;",
		api.ErrType:  "in a;int x at 0=true;",
		api.ErrCycle: "in a;int x at 0=x;",
		api.ErrLoop:  "in a;int x at 0=(0 fby (y+1));int y at 1=x;",
	} {
		if s, got := Print(text); s != "" || int(got) != e {
			t.Errorf("P4: Print(%.40q) = %q, %d, want nothing and %d", text, s, got, e)
		}
	}
}
