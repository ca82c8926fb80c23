package judge

import (
	"strings"
	"testing"

	"relay/api"
)

func TestRightTextHasItsProgram(t *testing.T) {
	p, e, at := Text("in a;int x at 0=a;")
	if e != api.OK || at != 0 || len(p.Decls) != 2 || len(p.Nodes) != 1 {
		t.Errorf("got %+v, %d, %d", p, e, at)
	}
}

func TestWrongTextHasNone(t *testing.T) {
	for e, text := range []string{
		api.ErrLong:  strings.Repeat(" ", api.MaxText+1),
		api.ErrText:  "in a;in b",
		api.ErrMany:  "in a;in b;in c;in d;in e;",
		api.ErrName:  "in a;in a;",
		api.ErrType:  "int x at 0=true;",
		api.ErrCycle: "int x at 0=x;",
		api.ErrLoop:  "int x at 0=(0 fby (y+1));int y at 1=x;",
	} {
		p, got, _ := Text(text)
		if int(got) != e || p.Decls != nil || p.Nodes != nil {
			t.Errorf("Text(%.40q) = %+v, %d, want nothing and %d", text, p, got, e)
		}
	}
}

// rows: a row for each thing, x where it leads.
func rows(lines ...string) [][]bool {
	leads := make([][]bool, len(lines))
	for i, line := range lines {
		for k := range line {
			leads[i] = append(leads[i], line[k] == 'x')
		}
	}
	return leads
}

func TestFollow(t *testing.T) {
	for _, c := range []struct{ given, want [][]bool }{
		{rows(), rows()},
		{rows("-"), rows("-")},
		{rows("-x--", "--x-", "---x", "----"), rows("-xxx", "--xx", "---x", "----")},
		{rows("---x", "x---", "-x--", "--x-"), rows("xxxx", "xxxx", "xxxx", "xxxx")},
		{rows("-x--", "--x-", "-x--", "x---"), rows("-xx-", "-xx-", "-xx-", "xxx-")},
	} {
		follow(c.given)
		for i := range c.want {
			for k := range c.want {
				if c.given[i][k] != c.want[i][k] {
					t.Errorf("follow: %v, want %v", c.given, c.want)
				}
			}
		}
	}
}
