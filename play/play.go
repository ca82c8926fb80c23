// Package play plays the places of a program when they wake.
package play

import (
	"relay/api"
	"relay/links"
	"relay/streams"
	"relay/tree"
)

// wire: a link, from place to place; its slot; and what was published on it last.
type wire struct {
	from, to int
	full     bool // the slot
	untaken  bool
	comes    int // the time at which what was published last comes
	known    int // the time at which it is known that what was published last was taken
}

// place: the number of its next step, and whether it holds the values of the step before that.
type place struct {
	next  int
	holds bool
}

// scene: the places and links at one moment; and the values of the equations at all instants, which hang on no script.
type scene struct {
	equations []tree.Decl
	values    [][]int
	wires     []wire
	places    [api.MaxPlaces]place
}

// Run plays a playable script, and lists what the places do. A place makes a step ahead of each publishing, so that it publishes at half of the acts at most: the values of no more instants are asked for.
func Run(p *tree.Program, ins [][]int, script []api.Act) []api.Event {
	s := scene{equations: p.Equations()}
	s.values = streams.Of(p, ins, len(script)/2)
	for _, r := range links.Of(p) {
		s.wires = append(s.wires, wire{from: s.equations[r.From].Place, to: r.To, full: r.Late})
	}
	events := make([]api.Event, len(script))
	for i, a := range script {
		events[i] = s.wake(a)
	}
	return events
}

func (s *scene) wake(a api.Act) api.Event {
	took := s.take(a)
	e := api.Event{Place: a.Place, At: a.At, Took: took}
	holds := s.places[a.Place].holds
	switch {
	case !holds && s.full(a):
		e.Did = api.Stepped
		e.N = s.step(a)
	case holds && s.free(a):
		e.Did = api.Published
		e.N = s.places[a.Place].next - 1
		e.Values = s.publish(a)
	}
	return e
}

// take fills the slots of a place with what has come, and lists the links of which it took something.
func (s *scene) take(a api.Act) []int {
	var took []int
	for i, w := range s.wires {
		if w.to == a.Place && !w.full && w.untaken && w.comes <= a.At {
			s.wires[i].full = true
			s.wires[i].untaken = false
			s.wires[i].known = a.At + a.Ack
			took = append(took, i)
		}
	}
	return took
}

// full tells whether all slots of a place are full.
func (s *scene) full(a api.Act) bool {
	for _, w := range s.wires {
		if w.to == a.Place && !w.full {
			return false
		}
	}
	return true
}

// step makes a place's next step, and answers its number.
func (s *scene) step(a api.Act) int {
	for i, w := range s.wires {
		if w.to == a.Place {
			s.wires[i].full = false
		}
	}
	s.places[a.Place].holds = true
	s.places[a.Place].next++
	return s.places[a.Place].next - 1
}

// free tells whether the place of an act knows that all it published last was taken. Where it has not published yet, nothing is untaken and the time is 0.
func (s *scene) free(a api.Act) bool {
	for _, w := range s.wires {
		if w.from == a.Place && (w.untaken || w.known > a.At) {
			return false
		}
	}
	return true
}

// publish lays the values that a place holds on the links from it, and lists them.
func (s *scene) publish(a api.Act) []int {
	for i, w := range s.wires {
		if w.from == a.Place {
			s.wires[i].untaken = true
			s.wires[i].comes = a.At + a.Data
		}
	}
	s.places[a.Place].holds = false
	number := s.places[a.Place].next - 1
	var list []int
	for i, d := range s.equations {
		if d.Place == a.Place {
			list = append(list, s.values[i][number])
		}
	}
	return list
}
