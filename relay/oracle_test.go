package relay

import (
	"math/rand"
	"regexp"
	"strconv"
	"strings"
	"testing"

	"relay/api"
)

// The tests of this file judge many made-up texts a second time, in a way of their own: the form by the grammar itself (all the ways in which the tokens so far may be derived), the meaning by rules on nested lists of tokens.

type piece struct {
	at   int
	text string
}

var pieces = regexp.MustCompile(`[a-z]+|[0-9]+|(?s:[^ \n])`)

func cut(text string) []piece {
	var list []piece
	for _, at := range pieces.FindAllStringIndex(text, -1) {
		list = append(list, piece{at[0], text[at[0]:at[1]]})
	}
	return list
}

var (
	aKept   = regexp.MustCompile(`^(in|int|bool|at|if|fby|not|true|false)$`)
	aName   = regexp.MustCompile(`^[a-z]{1,8}$`)
	aNumber = regexp.MustCompile(`^[0-9]{1,18}$`)
	aPlace  = regexp.MustCompile(`^0*[0-3]$`)
	anOp    = regexp.MustCompile(`^[-+*/<=&|]$`)
)

func isName(s string) bool    { return aName.MatchString(s) && !aKept.MatchString(s) }
func isNumber(s string) bool  { return aNumber.MatchString(s) }
func isLiteral(s string) bool { return isNumber(s) || s == "true" || s == "false" }

// grammar: what each symbol may stand for.
var grammar = map[string][]string{
	"PROGRAM": {"", "DECL PROGRAM"},
	"DECL":    {"in NAME ;", "int NAME at PLACE = EXPR ;", "bool NAME at PLACE = EXPR ;"},
	"EXPR":    {"LITERAL", "NAME", "( not EXPR )", "( if EXPR EXPR EXPR )", "( LITERAL fby EXPR )", "( EXPR OP EXPR )"},
}

func stands(symbol, token string) bool {
	switch symbol {
	case "NAME":
		return isName(token)
	case "PLACE":
		return isNumber(token) && aPlace.MatchString(token)
	case "LITERAL":
		return isLiteral(token)
	case "OP":
		return anOp.MatchString(token)
	}
	return symbol == token
}

// feed tells what may follow a token, if one of the ways (each a list of symbols that are still to come) has it come next.
func feed(ways map[string]bool, token string) map[string]bool {
	after := map[string]bool{}
	todo := []string{}
	for way := range ways {
		todo = append(todo, way)
	}
	for len(todo) > 0 {
		way := todo[len(todo)-1]
		todo = todo[:len(todo)-1]
		symbol, rest, _ := strings.Cut(way, " ")
		for _, body := range grammar[symbol] {
			todo = append(todo, strings.TrimSpace(body+" "+rest))
		}
		if grammar[symbol] == nil && symbol != "" && stands(symbol, token) {
			after[rest] = true
		}
	}
	return after
}

// fault tells the place of the first token that cannot stand, or -1.
func fault(text string) int {
	ways := map[string]bool{"PROGRAM": true}
	open := 0
	for _, p := range cut(text) {
		if p.text == "(" {
			open++
		}
		if p.text == ")" {
			open--
		}
		ways = feed(ways, p.text)
		if len(ways) == 0 || open > 16 {
			return p.at
		}
	}
	if !ways["PROGRAM"] {
		return len(text)
	}
	return -1
}

// item: a token, or what stands in a bracket.
type item struct {
	piece
	parts []item
}

func nest(tokens []piece) ([]item, []piece) {
	var list []item
	for len(tokens) > 0 && tokens[0].text != ")" {
		one := item{piece: tokens[0]}
		tokens = tokens[1:]
		if one.text == "(" {
			one.parts, tokens = nest(tokens)
			tokens = tokens[1:]
		}
		list = append(list, one)
	}
	return list, tokens
}

type declared struct {
	kind  string
	name  piece
	place int
	expr  item
}

func declarations(text string) []declared {
	var list []declared
	items, _ := nest(cut(text))
	for len(items) > 0 {
		d := declared{kind: items[0].text, name: items[1].piece}
		size := 3
		if d.kind != "in" {
			size = 7
			d.place, _ = strconv.Atoi(items[3].text)
			d.expr = items[5]
		}
		list = append(list, d)
		items = items[size:]
	}
	return list
}

// misfits tells the places of all items that are not what is wanted.
func misfits(kinds map[string]string, wanted string, e item) []int {
	is := wanted
	var wants []string
	of := e.parts
	switch {
	case isNumber(e.text):
		is = "int"
	case isLiteral(e.text):
		is = "bool"
	case isName(e.text):
		is = kinds[e.text]
	case of[0].text == "not":
		is, wants, of = "bool", []string{"bool"}, of[1:]
	case of[0].text == "if":
		wants, of = []string{"bool", wanted, wanted}, of[1:]
	case of[1].text == "fby":
		wants, of = []string{wanted, wanted}, []item{of[0], of[2]}
	default:
		side := map[bool]string{true: "bool", false: "int"}[strings.Contains("&|", of[1].text)]
		is = map[bool]string{true: "bool", false: "int"}[strings.Contains("<=&|", of[1].text)]
		wants, of = []string{side, side}, []item{of[0], of[2]}
	}
	var list []int
	if is != wanted {
		list = append(list, e.at)
	}
	for i := range wants {
		list = append(list, misfits(kinds, wants[i], of[i])...)
	}
	return list
}

// names lists the names in an item, each with whether it stands behind a fby (in an EXPR that follows one), and right behind.
type standing struct {
	piece
	behind, right bool
}

func names(e item, behind, right bool) []standing {
	if isName(e.text) {
		return []standing{{e.piece, behind, right}}
	}
	var list []standing
	for i, part := range e.parts {
		follows := i > 0 && e.parts[i-1].text == "fby"
		list = append(list, names(part, behind || follows, follows)...)
	}
	return list
}

// returns tells whether a walk from a thing along what leads to what comes back to it.
func returns(leads map[[2]int]bool, from int) bool {
	seen := map[int]bool{}
	todo := []int{from}
	for len(todo) > 0 {
		at := todo[0]
		todo = todo[1:]
		for edge := range leads {
			if edge[0] == at && !seen[edge[1]] {
				seen[edge[1]] = true
				todo = append(todo, edge[1])
			}
		}
	}
	return seen[from]
}

func second(text string) (api.Errno, int) {
	if len(text) > 1500 {
		return api.ErrLong, 0
	}
	if at := fault(text); at >= 0 {
		return api.ErrText, at
	}
	list := declarations(text)
	count := map[bool]int{}
	for _, d := range list {
		count[d.kind == "in"]++
		if count[true] > 4 || count[false] > 12 {
			return api.ErrMany, d.name.at
		}
	}
	number := map[string]int{}
	kinds := map[string]string{}
	for i, d := range list {
		number[d.name.text] = i
		kinds[d.name.text] = map[string]string{"in": "int", "int": "int", "bool": "bool"}[d.kind]
	}
	ahead := map[string]bool{}
	for _, d := range list {
		if ahead[d.name.text] {
			return api.ErrName, d.name.at
		}
		ahead[d.name.text] = true
		for _, n := range names(d.expr, false, false) {
			if kinds[n.text] == "" {
				return api.ErrName, n.at
			}
		}
	}
	least := -1
	for _, d := range list {
		if d.kind != "in" {
			for _, at := range misfits(kinds, d.kind, d.expr) {
				if least < 0 || at < least {
					least = at
				}
			}
		}
	}
	if least >= 0 {
		return api.ErrType, least
	}
	hangs := map[[2]int]bool{}
	waits := map[[2]int]bool{}
	for i, d := range list {
		for _, n := range names(d.expr, false, false) {
			x := list[number[n.text]]
			if x.kind == "in" {
				continue
			}
			if !n.behind {
				hangs[[2]int{i, number[n.text]}] = true
			}
			if !n.right && x.place != d.place {
				waits[[2]int{d.place, x.place}] = true
			}
		}
	}
	for i, d := range list {
		if returns(hangs, i) {
			return api.ErrCycle, d.name.at
		}
	}
	for _, d := range list {
		if d.kind != "in" && returns(waits, d.place) {
			return api.ErrLoop, d.name.at
		}
	}
	return api.OK, 0
}

// maker makes up programs; the names and types of most of them fit.
type maker struct {
	*rand.Rand
	kinds []string // "in", "int" or "bool" of each name
	wrong int      // one in so many parts is of the wrong type
}

func (m *maker) literal(kind string) string {
	if m.Intn(m.wrong) == 0 {
		kind = []string{"int", "bool"}[m.Intn(2)]
	}
	if kind == "bool" {
		return []string{"true", "false"}[m.Intn(2)]
	}
	return []string{"0", "1", "007", "42", "999999999999999999"}[m.Intn(5)]
}

func (m *maker) name(kind string) string {
	for range 8 {
		i := m.Intn(len(m.kinds))
		if (m.kinds[i] == "bool") == (kind == "bool") {
			return string([]byte{'a' + byte(i)})
		}
	}
	return m.literal(kind)
}

func (m *maker) expr(kind string, depth int) string {
	if depth == 0 || m.Intn(3) == 0 {
		return []string{m.literal(kind), m.name(kind), m.name(kind)}[m.Intn(3)]
	}
	depth--
	switch m.Intn(5) {
	case 0:
		return "(if " + m.expr("bool", depth) + " " + m.expr(kind, depth) + " " + m.expr(kind, depth) + ")"
	case 1, 2:
		return "(" + m.literal(kind) + " fby " + m.expr(kind, depth) + ")"
	}
	if kind == "int" {
		return "(" + m.expr("int", depth) + []string{"+", "-", "*", "/"}[m.Intn(4)] + m.expr("int", depth) + ")"
	}
	switch m.Intn(3) {
	case 0:
		return "(not " + m.expr("bool", depth) + ")"
	case 1:
		return "(" + m.expr("int", depth) + []string{"<", "="}[m.Intn(2)] + m.expr("int", depth) + ")"
	}
	return "(" + m.expr("bool", depth) + []string{"&", "|"}[m.Intn(2)] + m.expr("bool", depth) + ")"
}

func (m *maker) program() string {
	m.kinds = nil
	m.wrong = 1 + m.Intn(200)
	depth := 1 + m.Intn(4)
	for range 1 + m.Intn([]int{3, 8, 18}[m.Intn(3)]) {
		m.kinds = append(m.kinds, []string{"in", "int", "int", "bool", "int"}[m.Intn(5)])
	}
	text := ""
	for i, kind := range m.kinds {
		name := string([]byte{'a' + byte(i)})
		if m.Intn(80) == 0 {
			name = string([]byte{'a' + byte(m.Intn(len(m.kinds)+1))})
		}
		if kind == "in" {
			text += "in " + name + ";"
			continue
		}
		text += kind + " " + name + " at " + strconv.Itoa(m.Intn(4)) + " = " + m.expr(kind, depth) + ";\n"
	}
	return text
}

// spoil changes, takes out, doubles or puts in some token.
func (m *maker) spoil(text string) string {
	tokens := cut(text)
	if len(tokens) == 0 {
		return text
	}
	t := tokens[m.Intn(len(tokens))]
	put := []string{"in", "int", "bool", "at", "if", "fby", "not", "true", "(", ")", ";", "=", "+", "<", "&", "a", "zz", "3", "4", "ninechars", "1234567890123456789", "#", t.text + " " + t.text, ""}
	return text[:t.at] + " " + put[m.Intn(len(put))] + " " + text[t.at+len(t.text):]
}

func TestCheckAgainstGrammar(t *testing.T) {
	m := &maker{Rand: rand.New(rand.NewSource(1))}
	met := map[api.Errno]int{}
	for range 20000 {
		text := m.program()
		if m.Intn(3) == 0 {
			text = m.spoil(text)
		}
		if m.Intn(100) == 0 && len(text) <= api.MaxText {
			text = filled(text, api.MaxText+m.Intn(2))
		}
		e, at := Check(text)
		met[e]++
		if we, wat := second(text); e != we || at != wat {
			t.Fatalf("P3: Check(%q) = %d, %d, want %d, %d", text, e, at, we, wat)
		}
		testLaidOut(t, text, e)
	}
	for e := api.OK; e <= api.ErrLoop; e++ {
		if met[e] < 30 {
			t.Errorf("only %d texts with the error %d: %v", met[e], e, met)
		}
	}
}

// testLaidOut: what is printed has the same tokens, but for noughts in front, and is printed as it is.
func testLaidOut(t *testing.T, text string, e api.Errno) {
	printed, ep := Print(text)
	if ep != e || e != api.OK && printed != "" {
		t.Fatalf("P4: Print(%q) = %q, %d, want the error %d", text, printed, ep, e)
	}
	if e != api.OK {
		return
	}
	was, is := cut(text), cut(printed)
	same := len(was) == len(is)
	for i := 0; same && i < len(is); i++ {
		bare := strings.TrimLeft(was[i].text, "0")
		if bare == "" && was[i].text != "" {
			bare = "0"
		}
		same = is[i].text == bare
	}
	if !same {
		t.Fatalf("P4: Print(%q) = %q: other tokens", text, printed)
	}
	if again, ea := Print(printed); len(printed) <= api.MaxText && (again != printed || ea != api.OK) {
		t.Fatalf("P4: Print(%q) = %q, %d", printed, again, ea)
	}
}
