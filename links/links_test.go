package links

import (
	"reflect"
	"testing"

	"relay/api"
	"relay/tree"
)

func TestOf(t *testing.T) {
	for _, c := range []struct {
		text string
		want []api.Route
	}{
		{"", nil},
		{"in a;int x at 0=a;int y at 1=a;", nil},
		{"int x at 0=1;int y at 0=x;", nil},
		{"int x at 0=(0 fby y);int y at 1=(x+1);", []api.Route{{From: 0, To: 1}, {From: 1, To: 0, Late: true}}},
		{"int x at 0=(0 fby (y+1));int y at 1=0;", []api.Route{{From: 1, To: 0}}},
		{"int x at 0=(0 fby (1 fby y));int y at 1=0;", []api.Route{{From: 1, To: 0, Late: true}}},
		{"int x at 0=(0 fby y);int z at 0=y;int y at 1=0;", []api.Route{{From: 2, To: 0}}},
		{"int x at 0=((0 fby y)+y);int y at 1=0;", []api.Route{{From: 1, To: 0}}},
		{"int x at 0=(y+(0 fby y));int y at 1=0;", []api.Route{{From: 1, To: 0}}},
		{"in a;int u at 3=x;int v at 1=(0 fby x);int w at 0=x;int x at 2=a;int y at 2=u;", []api.Route{{From: 0, To: 2}, {From: 3, To: 0}, {From: 3, To: 1, Late: true}, {From: 3, To: 3}}},
	} {
		p, at, ok := tree.Parse(c.text)
		if !ok {
			t.Fatalf("Parse(%q) finds a fault at %d", c.text, at)
		}
		if got := Of(&p); !reflect.DeepEqual(got, c.want) {
			t.Errorf("links of %q: %v, want %v", c.text, got, c.want)
		}
	}
}

func TestWaits(t *testing.T) {
	p, at, ok := tree.Parse("int x at 0=(0 fby w);int y at 1=x;int z at 1=(0 fby (x+1));int w at 3=(y+(0 fby x));int v at 3=w;")
	if !ok {
		t.Fatalf("a fault at %d", at)
	}
	want := make([][]bool, api.MaxPlaces)
	for i := range want {
		want[i] = make([]bool, api.MaxPlaces)
	}
	want[1][0], want[3][1] = true, true
	if got := Waits(&p); !reflect.DeepEqual(got, want) {
		t.Errorf("who waits for whom: %v, want %v", got, want)
	}
}
