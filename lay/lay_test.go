package lay

import "testing"

func TestOut(t *testing.T) {
	for _, c := range []struct{ text, want string }{
		{"", ""},
		{" \n", ""},
		{"in\na\n;\n\n", "in a;\n"},
		{"int x at03=000 ;", "int x at 3 = 0;\n"},
		{"int x at 0=0100;", "int x at 0 = 100;\n"},
		{"bool p at 0=( not( if true( false fby p )(1<2) ) );in a;", "bool p at 0 = (not (if true (false fby p) (1 < 2)));\nin a;\n"},
	} {
		if got := Out(c.text); got != c.want {
			t.Errorf("Out(%q) = %q, want %q", c.text, got, c.want)
		}
	}
}
