package relay

import (
	"math/rand"
	"strconv"
	"testing"

	"relay/api"
)

// planner makes up right programs: it plans which name may stand where, ahead of writing any.
type planner struct {
	*rand.Rand
	kinds  []string // "in", "int" or "bool" of each name
	places []int    // of each name; of an input none
	wait   [4]int   // a place waits only for places that are lower here
	turn   []int    // at one place, an equation hangs only on those that are lower here
}

// Where a name stands.
const (
	open   = 0 // outside every EXPR that follows a fby
	behind = 1 // in one
	right  = 2 // right behind the fby
)

func (m *planner) may(user, used, where int) bool {
	switch {
	case m.kinds[used] == "in" || where == right:
		return true
	case m.places[user] == m.places[used]:
		return where == behind || m.turn[used] < m.turn[user]
	}
	return m.wait[m.places[used]] < m.wait[m.places[user]]
}

func (m *planner) literal(kind string) string {
	if kind == "bool" {
		return []string{"true", "false"}[m.Intn(2)]
	}
	return []string{"0", "1", "2", "007", "42", "4294967296", "999999999999999999"}[m.Intn(7)]
}

func (m *planner) leaf(user int, kind string, where int) string {
	for range 12 {
		used := m.Intn(len(m.kinds))
		if (m.kinds[used] == "bool") == (kind == "bool") && m.may(user, used, where) {
			return string([]byte{'a' + byte(used)})
		}
	}
	return m.literal(kind)
}

func (m *planner) expr(user int, kind string, depth int, where int) string {
	if depth == 0 || m.Intn(4) == 0 {
		return m.leaf(user, kind, where)
	}
	depth--
	inner := min(where, behind)
	part := func(kind string) string { return m.expr(user, kind, depth, inner) }
	switch m.Intn(5) {
	case 0:
		return "(if " + part("bool") + " " + part(kind) + " " + part(kind) + ")"
	case 1, 2:
		return "(" + m.literal(kind) + " fby " + m.expr(user, kind, depth, right) + ")"
	}
	if kind == "int" {
		return "(" + part("int") + []string{"+", "-", "*", "/"}[m.Intn(4)] + part("int") + ")"
	}
	switch m.Intn(3) {
	case 0:
		return "(not " + part("bool") + ")"
	case 1:
		return "(" + part("int") + []string{"<", "="}[m.Intn(2)] + part("int") + ")"
	}
	return "(" + part("bool") + []string{"&", "|"}[m.Intn(2)] + part("bool") + ")"
}

func (m *planner) program() string {
	for {
		if text := m.draft(); len(text) <= api.MaxText {
			return text
		}
	}
}

func (m *planner) draft() string {
	m.kinds, m.places = nil, nil
	for range m.Intn(5) {
		m.kinds = append(m.kinds, "in")
	}
	for range 1 + m.Intn(12) {
		m.kinds = append(m.kinds, []string{"int", "int", "bool"}[m.Intn(3)])
	}
	m.Shuffle(len(m.kinds), func(i, k int) { m.kinds[i], m.kinds[k] = m.kinds[k], m.kinds[i] })
	for range m.kinds {
		m.places = append(m.places, m.Intn(4))
	}
	copy(m.wait[:], m.Perm(4))
	m.turn = m.Perm(len(m.kinds))
	depth := 1 + m.Intn(4)
	text := ""
	for i, kind := range m.kinds {
		name := string([]byte{'a' + byte(i)})
		if kind == "in" {
			text += "in " + name + ";"
			continue
		}
		text += kind + " " + name + " at " + strconv.Itoa(m.places[i]) + "=" + m.expr(i, kind, depth, open) + ";\n"
	}
	return text
}

func TestPlannedProgramsAreRight(t *testing.T) {
	m := &planner{Rand: rand.New(rand.NewSource(2))}
	for range 1500 {
		text := m.program()
		if e, at := second(text); e != api.OK {
			t.Fatalf("%q has the error %d at %d", text, e, at)
		}
		if e, at := Check(text); e != api.OK || at != 0 {
			t.Fatalf("P3: Check(%q) = %d, %d", text, e, at)
		}
	}
}
