package relay

import (
	"fmt"
	"strings"
	"testing"

	"relay/api"
)

// checked: a text, with ^ ahead of the byte whose place Check should tell (none: the place 0).
type checked struct {
	e    api.Errno
	text string
}

func (c checked) test(t *testing.T) {
	t.Helper()
	at := strings.Index(c.text, "^")
	text := strings.Replace(c.text, "^", "", 1)
	if at < 0 {
		at = 0
	}
	if e, got := Check(text); e != c.e || got != at {
		t.Errorf("P3: Check(%.200q) = %d, %d, want %d, %d", text, e, got, c.e, at)
	}
}

func testAll(t *testing.T, e api.Errno, texts ...string) {
	t.Helper()
	for _, text := range texts {
		checked{e, text}.test(t)
	}
}

// deep: n brackets inside one another.
func deep(n int) string {
	return strings.Repeat("(1+", n) + "1" + strings.Repeat(")", n)
}

// filled: a text with blanks behind it, n bytes in all.
func filled(text string, n int) string {
	return text + strings.Repeat(" ", n-len(text))
}

func inputs(names ...string) string {
	s := ""
	for _, name := range names {
		s += "in " + name + ";"
	}
	return s
}

// equations: n of them, with names of their own.
func equations(n int) string {
	s := ""
	for i := 0; i < n; i++ {
		s += fmt.Sprintf("int e%c at %d=%d;", 'a'+i, i%4, i)
	}
	return s
}

func TestRight(t *testing.T) {
	testAll(t, api.OK,
		"", " ", "\n\n \n", "in a;", "in a;in b;in c;in d;", "int x at 0=1;", "bool p at 3=false;",
		"in\n a\n;int\nx at\n0\n=\n(\na\n+\n1\n)\n;", "int x at0=(1fby(2fby x));",
		"int x at 0=a;in a;",
		"in a;int x at 0=((((a+1)-2)*3)/4);", "in a;bool p at 0=(((a<1)&(a=2))|(not true));",
		"bool p at 0=(true fby p);",
		"in inn;in ints;in ifs;in fbys;", "in trues;in falses;in nots;in ats;", "in bools;",
	)
}

func TestLong(t *testing.T) {
	testAll(t, api.OK, filled("in a;", api.MaxText))
	testAll(t, api.ErrLong, filled("in a;", api.MaxText+1), filled("#", api.MaxText+1), filled(inputs("a", "a", "a", "a", "a"), api.MaxText+1), filled("int x at 0=x;", 10*api.MaxText))
	testAll(t, api.ErrText, "^"+filled("#", api.MaxText), filled("in a;in", api.MaxText)+"^")
}

func TestTextBetweenDeclarations(t *testing.T) {
	testAll(t, api.ErrText, "^a", "^1", "^;", "^(", "^at", "^true", "in a;^;", "in a; ^b;", "in a;\n^#", "int x at 0=1;^)", "^In a;", "^inn a;", "^inta;", "^A", "^\x00", "in a;^\r\n", "^\xef\xbb\xbfin a;")
}

func TestTextOfInput(t *testing.T) {
	testAll(t, api.ErrText, "in^", "in \n^", "in^;", "in ^int;", "in ^true;", "in ^1;", "in ^(a);", "in a^", "in a ^b;", "in a^,", "in a ^at 0=1;", "in a^1;", "in a^=1;", "in a^A;", "in a^\t;")
}

func TestTextOfEquation(t *testing.T) {
	testAll(t, api.ErrText,
		"int^", "int x^", "int x at^", "int x at 0^", "int x at 0=^", "int x at 0=1^", "int x at 0=1 \n^",
		"int ^in at 0=1;", "int ^1 at 0=1;", "int x^;", "int x^=1;", "int x ^a 0=1;", "int x at^=1;", "int x at ^x=1;", "int x at^-1=1;", "int x at 0 ^0=1;", "int x at 0^:=1;", "int x at 0=^;", "int x at 0=^=1;", "int x at 0=1 ^2;", "int x at 0=1^+2;", "int x at 0=1^);",
		"bool^", "bool ^bool at 0=true;", "bool p at 0=true^", "bool p at 0=^not true;",
	)
}

func TestTextOfPlace(t *testing.T) {
	testAll(t, api.OK, "int x at 3=1;", "int x at 03=1;", "int x at 000000000000000003=1;")
	testAll(t, api.ErrText, "int x at ^4=1;", "int x at ^04=1;", "int x at ^10=1;", "int x at ^999999999999999999=1;", "int x at ^0000000000000000003=1;", "int x at ^4#", "int x at ^4")
}

func TestTextOfExpr(t *testing.T) {
	testAll(t, api.ErrText,
		"int x at 0=^-1;", "int x at 0=^at;", "int x at 0=^fby;", "int x at 0=^if;", "int x at 0=^in;", "int x at 0=^int;",
		"int x at 0=(^", "int x at 0=(^)", "int x at 0=(^+", "int x at 0=(^fby", "int x at 0=(^;", "int x at 0=(^at",
		"int x at 0=(1^", "int x at 0=(1^)", "int x at 0=(1 ^2)", "int x at 0=(1 ^not", "int x at 0=(1 ^if", "int x at 0=(1^;", "int x at 0=(1^>2);", "int x at 0=(1^!", "int x at 0=(a ^b)", "int x at 0=(a^)", "int x at 0=((1+2)^)", "int x at 0=((1+2)^(",
		"int x at 0=(1+^", "int x at 0=(1+^)", "int x at 0=(1+^+", "int x at 0=(1+2^", "int x at 0=(1+2^+3);", "int x at 0=(1+2^;", "int x at 0=(1+2 ^fby", "int x at 0=(1=^=2);", "int x at 0=(1<^=2);",
		"int x at 0=(not^", "int x at 0=(not^)", "int x at 0=(not ^not", "int x at 0=(not a^", "int x at 0=(not a ^b", "int x at 0=(not a^+", "int x at 0=(not a ^fby", "int x at 0=(not 1 ^fby",
		"int x at 0=(if^", "int x at 0=(if^)", "int x at 0=(if a^)", "int x at 0=(if a b^)", "int x at 0=(if a b^", "int x at 0=(if a b c^", "int x at 0=(if a b c ^d", "int x at 0=(if a^+", "int x at 0=(if 1 ^fby",
		"int x at 0=(1 fby^", "int x at 0=(1 fby^)", "int x at 0=(1 fby ^fby", "int x at 0=(1 fby 2^", "int x at 0=(1 fby 2 ^3", "int x at 0=(1 fby 2 ^fby 3);", "int x at 0=(1 fby 2^+3);",
		"int x at 0=(a ^fby 1);", "int x at 0=((1^) fby 1);", "int x at 0=((1+2) ^fby 1);", "int x at 0=((0 fby 1) ^fby 1);", "int x at 0=(1 ^fbyx",
	)
}

func TestTextOfWordsAndNumbers(t *testing.T) {
	testAll(t, api.OK, "in eightltr;", "int x at 0=999999999999999999;", "int x at 0=000000000000000001;", "int x at 0=(000000000000000001 fby 1);")
	testAll(t, api.ErrText, "in ^nineltrsx;", "in ^anineltrsx;", "int x at 0=^nineltrsx;", "int x at 0=^1000000000000000000;", "int x at 0=^0000000000000000001;", "int x at 0=(^0000000000000000001 fby 1);", "int x at 0=(1 ^fbyfbyfby 1);", "^truetruetrue")
}

func TestTextOfDepth(t *testing.T) {
	testAll(t, api.OK, "int x at 0="+deep(api.MaxDepth)+";", "int x at 0=("+deep(15)+"+"+deep(15)+");int y at 0="+deep(16)+";", "int x at 0="+strings.Repeat("(0 fby ", 16)+"x"+strings.Repeat(")", 16)+";", "bool x at 0="+strings.Repeat("(not ", 16)+"true"+strings.Repeat(")", 16)+";")
	open := strings.Repeat("(1+", api.MaxDepth)
	testAll(t, api.ErrText, "int x at 0="+open+"^(1+1"+strings.Repeat(")", 17)+";", "int x at 0="+open+"^(", "int x at 0="+open+"^"+open, "int x at 0="+strings.Repeat("(", 16)+"^(", "int x at 0="+strings.Repeat("(if ", 16)+"1 ^(", "int x at 0="+strings.Repeat("(not ", 16)+"^(", "int x at 0=("+deep(15)+"+"+"(1+"+strings.Repeat("(1+", 14)+"^(1+1")
}

func TestMany(t *testing.T) {
	testAll(t, api.OK, equations(12), inputs("a", "b", "c", "d")+equations(12))
	testAll(t, api.ErrMany,
		inputs("a", "b", "c", "d")+"in ^e;", inputs("a", "b", "c", "d")+"in ^a;", inputs("a", "b", "c", "d")+"in ^e;in f;",
		equations(12)+"int ^x at 0=1;", equations(12)+"bool \n ^ea at 0=1;in a;",
		inputs("a", "b", "c", "d")+equations(12)+"in ^e;int x at 0=1;", inputs("a", "b", "c", "d")+equations(12)+"int ^x at 0=1;in e;",
		inputs("a", "b", "c")+equations(12)+"in d;in ^e;",
	)
}

func TestName(t *testing.T) {
	testAll(t, api.ErrName,
		"in a;in ^a;", "in a;int ^a at 0=1;", "int a at 0=1;in ^a;", "int a at 0=1;bool ^a at 1=true;", "in a;in b;in ^b;in a;",
		"int x at 0=^y;", "int x at 0=(1+^y);", "int x at 0=(0 fby ^y);", "int x at 0=(if ^p q r);", "bool x at 0=(not ^p);", "int x at 0=(x+(x+(x+^xx)));",
		"int x at 0=^y;in x;", "in x;int ^x at 0=y;", "int x at 0=(^y+z);", "in x;in y;int z at 0=(x+y);int ^y at 0=w;",
		"int x at 0=z;int y at 0=^w;int z at 0=1;",
	)
}

func TestType(t *testing.T) {
	testAll(t, api.ErrType,
		"int x at 0=^true;", "int x at 0=^false;", "bool p at 0=^1;", "in a;bool p at 0=^a;", "bool p at 0=true;int x at 0=^p;", "int x at 0=^p;bool p at 0=true;", "bool p at 0=^x;int x at 0=1;",
		"int x at 0=^(not true);", "bool p at 0=(not ^1);", "bool p at 0=(not ^(1+1));", "int x at 0=^(not 1);",
		"int x at 0=(if ^1 2 3);", "int x at 0=(if true ^true 3);", "int x at 0=(if true 2 ^true);", "bool p at 0=(if true ^2 3);", "bool p at 0=(if true true ^3);", "int x at 0=(if (if true ^1 true) 2 3);", "int x at 0=(if (true fby ^1) 2 3);", "int x at 0=(if (^1 fby 1) 2 3);",
		"int x at 0=(^true fby 1);", "int x at 0=(1 fby ^true);", "bool p at 0=(^0 fby true);", "bool p at 0=(true fby ^0);", "int x at 0=(^true fby true);", "bool p at 0=(^1 fby 1);",
		"bool p at 0=(^true=true);", "bool p at 0=(1=^true);", "bool p at 0=(^true<1);", "bool p at 0=(1<^true);", "int x at 0=(^true+1);", "int x at 0=(1-^true);", "int x at 0=(1*^true);", "int x at 0=(^true/1);",
		"bool p at 0=(^1&true);", "bool p at 0=(true&^1);", "bool p at 0=(^1|true);", "bool p at 0=(true|^1);",
		"bool p at 0=^(1+1);", "bool p at 0=^(1-1);", "bool p at 0=^(1*1);", "bool p at 0=^(1/1);", "int x at 0=^(1<1);", "int x at 0=^(1=1);", "int x at 0=^(true&true);", "int x at 0=^(true|true);",
		"int x at 0=^(true<true);", "int x at 0=((1+^true)+true);", "int x at 0=(1+2);bool p at 0=(p & ^3);int z at 0=true;",
		"bool p at 0=(1<(if true (0 fby (^true+2)) 3));",
	)
}

func TestCycle(t *testing.T) {
	testAll(t, api.OK, "int x at 0=(0 fby x);", "int x at 0=(0 fby (x+1));", "int x at 0=(0 fby y);int y at 0=x;", "int x at 0=y;int y at 0=z;int z at 0=(0 fby (x+y));", "int x at 0=(y+z);int y at 0=z;int z at 0=1;", "in a;int x at 0=(a+a);int y at 0=(a+x);")
	testAll(t, api.ErrCycle,
		"int ^x at 0=x;", "bool ^x at 0=(not x);", "int ^x at 0=(if true 1 x);", "int ^x at 0=((0 fby x)+x);", "int ^x at 0=(x+(0 fby x));", "bool ^p at 0=(true|p);",
		"int ^x at 0=y;int y at 0=x;", "int ^x at 0=y;int y at 1=x;", "in a;int w at 0=x;int ^x at 0=y;int y at 0=z;int z at 0=x;", "int w at 0=(x+z);int x at 0=1;int y at 0=w;int ^z at 0=z;",
		"int w at 0=1;int ^x at 0=(w+y);int y at 1=(w+x);int z at 2=z;", "int y at 0=(0 fby x);int ^x at 0=(1+x);",
		"int x at 0=(0 fby (x+z));int y at 0=x;int ^z at 0=u;int u at 0=(1+z);",
	)
}

func TestLoop(t *testing.T) {
	testAll(t, api.OK,
		"int x at 0=(0 fby y);int y at 1=(x+1);", "int x at 0=(0 fby y);int y at 1=(0 fby x);", "int x at 0=(0 fby (1 fby y));int y at 1=x;", "int x at 0=(0 fby (y+1));int y at 0=x;",
		"int x at 0=1;int y at 1=x;int z at 2=(x+y);int w at 3=((x+y)+z);", "in a;int x at 0=a;int y at 1=(x+a);",
		"int u at 0=1;int x at 1=u;int y at 0=(0 fby x);", "int x at 0=((1 fby y)+(2 fby y));int y at 1=x;",
	)
	testAll(t, api.ErrLoop,
		"int ^x at 0=(0 fby (y+1));int y at 1=x;", "int ^x at 0=((0 fby y)+(0 fby (y+y)));int y at 1=x;", "int ^x at 0=(0 fby (if true y 1));int y at 1=x;",
		"int ^x at 0=1;int y at 1=x;int z at 0=y;", "int ^x at 0=(0 fby y);int y at 1=x;int z at 0=y;", "int ^z at 0=1;int x at 0=(0 fby (y+1));int y at 1=x;",
		"int w at 3=1;int ^x at 0=(w+1);int y at 1=x;int z at 2=y;int u at 0=(0 fby (1+z));",
		"int w at 3=x;int ^x at 0=1;int y at 1=x;int z at 2=y;int u at 0=z;", "in a;int w at 3=1;int v at 2=w;int ^x at 1=v;int y at 0=x;int z at 1=y;",
	)
}

// Each text has all the errors from some one on: the one named first is told, wherever the others stand.
func TestOrderOfErrors(t *testing.T) {
	loop := "int l at 2=(0 fby (m+1));int m at 3=l;"
	cycle := "int c at 0=c;"
	kind := "int k at 0=true;"
	name := "int n at 0=nn;"
	many := inputs("a", "b", "d", "e", "f")
	testAll(t, api.ErrLoop, "int ^"+loop[4:])
	testAll(t, api.ErrCycle, loop+"int ^"+cycle[4:])
	testAll(t, api.ErrType, loop+cycle+"int k at 0=^true;")
	testAll(t, api.ErrName, loop+cycle+kind+"int n at 0=^nn;")
	testAll(t, api.ErrMany, loop+cycle+kind+name+inputs("a", "b", "d", "e")+"in ^f;")
	testAll(t, api.ErrText, loop+cycle+kind+name+many+"^#")
	testAll(t, api.ErrLong, filled(loop+cycle+kind+name+many+"#", api.MaxText+1))
}

func TestExamplesOfCheck(t *testing.T) {
	testAll(t, api.OK, "", "int x at 0=(0 fby x);", "int x at 0=(0 fby y);int y at 1=(x+1);")
	for _, c := range []struct {
		text string
		e    api.Errno
		at   int
	}{
		{"in a", api.ErrText, 4}, {"in in;", api.ErrText, 3}, {"int x at 4=1;", api.ErrText, 9}, {"int x at 0=(1);", api.ErrText, 13}, {"in a;#", api.ErrText, 5},
		{"in a;in b;in a;", api.ErrName, 13}, {"int x at 0=y;", api.ErrName, 11},
		{"int x at 0=(1+true);", api.ErrType, 14}, {"int x at 0=(if 1 2 true);", api.ErrType, 15}, {"bool p at 0=(0 fby p);", api.ErrType, 13},
		{"int x at 0=x;", api.ErrCycle, 4}, {"int x at 0=(0 fby (y+1));int y at 1=x;", api.ErrLoop, 4},
	} {
		if e, at := Check(c.text); e != c.e || at != c.at {
			t.Errorf("P3: Check(%q) = %d, %d, want %d, %d", c.text, e, at, c.e, c.at)
		}
	}
}
