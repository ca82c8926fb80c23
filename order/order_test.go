package order

import (
	"slices"
	"strings"
	"testing"

	"relay/tree"
)

func parsed(t *testing.T, text string) tree.Program {
	t.Helper()
	p, at, ok := tree.Parse(text)
	if !ok {
		t.Fatalf("Parse(%q) finds a fault at %d", text, at)
	}
	return p
}

func TestHangs(t *testing.T) {
	for _, c := range []struct{ text, want string }{
		{"", ""},
		{"in a;int x at 0=a;", "-- --"},
		{"int x at 0=x;", "x"},
		{"int x at 0=(0 fby x);", "-"},
		{"int x at 0=(0 fby (x+(1*x)));", "-"},
		{"int x at 0=((0 fby x)+x);", "x"},
		{"in a;int x at 0=(z+a);int y at 1=(0 fby z);int z at 2=(if (not (y<1)) 2 y);", "---- ---x ---- --x-"},
	} {
		p := parsed(t, c.text)
		var rows []string
		for _, row := range Hangs(&p) {
			line := ""
			for _, on := range row {
				line += map[bool]string{true: "x", false: "-"}[on]
			}
			rows = append(rows, line)
		}
		if got := strings.Join(rows, " "); got != c.want {
			t.Errorf("what hangs on what in %q: %s, want %s", c.text, got, c.want)
		}
	}
}

func TestOf(t *testing.T) {
	for _, c := range []struct {
		text string
		want []int
	}{
		{"", nil},
		{"in a;in b;", nil},
		{"in a;int x at 0=a;in b;int y at 0=b;", []int{1, 3}},
		{"int x at 0=y;int y at 0=z;int z at 0=1;", []int{2, 1, 0}},
		{"int x at 0=(0 fby y);int y at 0=x;", []int{0, 1}},
		{"int x at 0=y;int y at 0=(0 fby x);", []int{1, 0}},
		{"int w at 0=(x+y);int x at 0=(y+z);int y at 1=z;int z at 2=4;", []int{3, 2, 1, 0}},
		{"int x at 0=x;int y at 0=2;int z at 0=x;", []int{1}},
	} {
		p := parsed(t, c.text)
		got := Of(&p)
		if !slices.Equal(got, c.want) {
			t.Errorf("the order of %q: %v, want %v", c.text, got, c.want)
		}
	}
}

// The equations are declared in an order that leaves one more ready in each round, and no more.
func TestOfLongestChain(t *testing.T) {
	names := "abcdefghijkl"
	text := ""
	var want []int
	for i := range len(names) - 1 {
		text += "int " + names[i:i+1] + " at 0=" + names[i+1:i+2] + ";"
		want = append([]int{i}, want...)
	}
	p := parsed(t, text+"int l at 0=0;")
	want = append([]int{len(names) - 1}, want...)
	if got := Of(&p); !slices.Equal(got, want) {
		t.Errorf("the order of a chain: %v, want %v", got, want)
	}
}
