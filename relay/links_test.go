package relay

import (
	"fmt"
	"slices"
	"strings"
	"testing"

	"relay/api"
)

// wrongTexts: a text for each error of Check.
var wrongTexts = []struct {
	e    api.Errno
	text string
}{
	{api.ErrLong, strings.Repeat(" ", api.MaxText+1)},
	{api.ErrLong, strings.Repeat("int x at 0=x;", 200)},
	{api.ErrText, "int x at 0=1;int y at 1=x"},
	{api.ErrText, "int x at 4=1;"},
	{api.ErrText, "#"},
	{api.ErrMany, inputs("a", "b", "c", "d", "e")},
	{api.ErrMany, equations(12) + "int x at 0=ea;"},
	{api.ErrName, "int x at 0=1;int x at 1=x;"},
	{api.ErrName, "int x at 0=1;int y at 1=(x+z);"},
	{api.ErrType, "int x at 0=1;bool y at 1=x;"},
	{api.ErrCycle, "int x at 0=y;int y at 0=x;"},
	{api.ErrCycle, "int x at 0=y;int y at 1=x;"},
	{api.ErrLoop, "int x at 0=(0 fby (y+1));int y at 1=x;"},
}

func testLinks(t *testing.T, text string, want ...api.Route) {
	t.Helper()
	got, e := Links(text)
	if e != api.OK || !slices.Equal(got, want) {
		t.Errorf("P5: Links(%q) = %v, %d, want %v", text, got, e, want)
	}
}

func prompt(from, to int) api.Route { return api.Route{From: from, To: to} }
func late(from, to int) api.Route   { return api.Route{From: from, To: to, Late: true} }

func TestLinksOfExamples(t *testing.T) {
	testLinks(t, "int x at 0=(0 fby y);int y at 1=(x+1);", prompt(0, 1), late(1, 0))
}

func TestNoLinks(t *testing.T) {
	for _, text := range []string{
		"", "in a;", "in a;int x at 0=a;int y at 1=(0 fby a);", "int x at 0=1;int y at 1=2;",
		"int x at 2=1;int y at 2=x;int z at 2=(0 fby x);", "int x at 1=(0 fby x);", "int x at 3=(0 fby y);int y at 3=x;",
	} {
		testLinks(t, text)
	}
}

func TestPromptLinks(t *testing.T) {
	for _, expr := range []string{
		"x", "(x+1)", "(1+x)", "(if (x<1) 2 3)", "(if true x 3)", "(if true 2 x)", "(0 fby (x+1))", "(0 fby (1 fby (x-x)))", "(0 fby (if true x 1))",
		"((0 fby x)+x)", "(x+(0 fby x))", "((0 fby (x+1))+(0 fby x))", "(0 fby ((1 fby x)+x))",
	} {
		testLinks(t, "int x at 2=1;int y at 0="+expr+";", prompt(0, 0))
		testLinks(t, "int y at 0="+expr+";int x at 2=1;", prompt(1, 0))
	}
	for _, expr := range []string{"p", "(not p)", "(p|false)", "(false fby (not p))", "((true fby p)&p)"} {
		testLinks(t, "bool p at 3=true;bool y at 1="+expr+";", prompt(0, 1))
	}
}

func TestLateLinks(t *testing.T) {
	for _, expr := range []string{
		"(0 fby x)", "(0 fby (1 fby x))", "((0 fby x)+1)", "((0 fby x)+(7 fby x))", "(if true (0 fby x) 1)", "(0 fby ((1 fby x)+2))",
	} {
		testLinks(t, "int x at 2=1;int y at 0="+expr+";", late(0, 0))
		testLinks(t, "int y at 0="+expr+";int x at 2=1;", late(1, 0))
	}
}

// A name that stands both ways, in one equation or in several of one place; what other places do changes nothing.
func TestBothWaysIsPrompt(t *testing.T) {
	testLinks(t, "int x at 2=1;int y at 0=(0 fby x);int z at 0=x;", prompt(0, 0))
	testLinks(t, "int x at 2=1;int z at 0=x;int y at 0=(0 fby x);", prompt(0, 0))
	testLinks(t, "int x at 2=1;int z at 0=(0 fby (0-x));int y at 0=(0 fby x);", prompt(0, 0))
	testLinks(t, "int x at 2=1;int y at 0=(0 fby x);int z at 0=(1 fby x);", late(0, 0))
	testLinks(t, "int x at 2=1;int y at 0=(0 fby x);int z at 1=x;", late(0, 0), prompt(0, 1))
	testLinks(t, "int x at 2=1;int y at 0=x;int z at 1=(0 fby x);", prompt(0, 0), late(0, 1))
	testLinks(t, "int x at 2=1;int y at 0=(0 fby x);int z at 2=x;", late(0, 0))
}

func TestOrderOfLinks(t *testing.T) {
	testLinks(t, "int c at 3=(a+b);int d at 2=(b+a);int e at 0=b;in i;int b at 1=i;int a at 1=0;",
		prompt(3, 0), prompt(3, 2), prompt(3, 3), prompt(4, 2), prompt(4, 3))
	testLinks(t, "int z at 3=(0 fby y);int y at 2=(0 fby x);int x at 1=(0 fby w);int w at 0=(0 fby z);",
		late(0, 0), late(1, 3), late(2, 2), late(3, 1))
	testLinks(t, "int a at 0=((0 fby b)+((0 fby c)+(0 fby d)));int b at 1=((a+(0 fby c))+(0 fby d));int c at 2=((a+b)+(0 fby d));int d at 3=((a+b)+c);",
		prompt(0, 1), prompt(0, 2), prompt(0, 3), late(1, 0), prompt(1, 2), prompt(1, 3), late(2, 0), late(2, 1), prompt(2, 3), late(3, 0), late(3, 1), late(3, 2))
}

// Each of twelve equations goes to all three places that it is not at: the first equation of a place names those of all others.
func TestMostLinks(t *testing.T) {
	text := ""
	var want []api.Route
	for i := range 12 {
		text += fmt.Sprintf("int %c at %d=", 'a'+i, i%4)
		size := 0
		for k := range 12 {
			if i < 4 && k%4 != i {
				text += fmt.Sprintf("((0 fby %c)+", 'a'+k)
				size++
			}
		}
		text += "0" + strings.Repeat(")", size) + ";"
		for to := range 4 {
			if to != i%4 {
				want = append(want, late(i, to))
			}
		}
	}
	testLinks(t, text, want...)
}

func TestLinksOfWrongTexts(t *testing.T) {
	for _, c := range wrongTexts {
		if got, e := Links(c.text); e != c.e || len(got) != 0 {
			t.Errorf("P5: Links(%.100q) = %v, %d, want nothing and %d", c.text, got, e, c.e)
		}
	}
}
