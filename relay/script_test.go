package relay

import (
	"math/rand"
	"slices"
	"strconv"
	"strings"
	"testing"

	"relay/api"
)

// script reads acts: place@time, or place@time,ack,data.
func script(text string) []api.Act {
	var list []api.Act
	for _, word := range strings.Fields(text) {
		place, rest, _ := strings.Cut(word, "@")
		numbers := strings.Split(rest+",0,0", ",")
		a := api.Act{}
		for i, field := range []*int{&a.Place, &a.At, &a.Ack, &a.Data} {
			number, err := strconv.Atoi(append([]string{place}, numbers...)[i])
			if err != nil {
				panic(err)
			}
			*field = number
		}
		list = append(list, a)
	}
	return list
}

func TestScript(t *testing.T) {
	got := script("0@5 3@-7,8,9")
	if len(got) != 2 || got[0] != (api.Act{Place: 0, At: 5}) || got[1] != (api.Act{Place: 3, At: -7, Ack: 8, Data: 9}) {
		t.Errorf("the acts are read as %v", got)
	}
}

// The rest of this file judges scripts a second time, and makes scripts up.

// peopled: the places that have equations, in their order.
func peopled(text string) []int {
	list := homesOf(text)
	slices.Sort(list)
	return slices.Compact(list)
}

func secondPlayable(places []int, s []api.Act) bool {
	for i, a := range s {
		if !slices.Contains(places, a.Place) || i > 0 && a.At < s[i-1].At {
			return false
		}
		for _, number := range []int{a.At, a.Ack, a.Data} {
			if number < 0 || number > 1<<40 {
				return false
			}
		}
	}
	last := map[int]api.Act{}
	for _, a := range s {
		if before, found := last[a.Place]; found && (before.At+before.Ack >= a.At || before.At+before.Data >= a.At) {
			return false
		}
		last[a.Place] = a
	}
	return len(s) <= 400
}

func secondFit(b api.Bounds) bool {
	return 1 <= b.Tmin && b.Tmin <= b.Tmax && b.Tmax <= 1000000 && 0 <= b.Dmin && b.Dmin <= b.Dmax && b.Dmax < b.Tmin
}

func secondValid(places []int, b api.Bounds, s []api.Act) api.Errno {
	if !secondFit(b) {
		return api.ErrArg
	}
	if !secondPlayable(places, s) {
		return api.ErrScript
	}
	for place := range 4 {
		earliest, latest := 0, b.Tmax
		for _, a := range s {
			if a.Place != place {
				continue
			}
			if a.At < earliest || a.At > latest || min(a.Ack, a.Data) < b.Dmin || max(a.Ack, a.Data) > b.Dmax {
				return api.ErrScript
			}
			earliest, latest = a.At+b.Tmin, a.At+b.Tmax
		}
	}
	return api.OK
}

// between: a number from least to most, and often one of them.
func between(r *rand.Rand, least, most int) int {
	return []int{least, most, least + r.Intn(most-least+1)}[r.Intn(3)]
}

// madeUpBounds fit, and are narrow or wide.
func madeUpBounds(r *rand.Rand) api.Bounds {
	span := []int{1, 2, 3, 5, 12, 1000, api.MaxSpan}[r.Intn(7)]
	b := api.Bounds{}
	b.Tmin = between(r, 1, span)
	b.Tmax = between(r, b.Tmin, span)
	b.Dmin = between(r, 0, b.Tmin-1)
	b.Dmax = between(r, b.Dmin, b.Tmin-1)
	return b
}

// validScript: acts of all places, in the order of their times, and at one time in any order.
func validScript(r *rand.Rand, places []int, b api.Bounds, size int) []api.Act {
	next := map[int]int{}
	places = slices.Clone(places)
	for _, place := range places {
		next[place] = between(r, 0, b.Tmax)
	}
	var s []api.Act
	for len(s) < size && len(places) > 0 {
		r.Shuffle(len(places), func(i, k int) { places[i], places[k] = places[k], places[i] })
		first := places[0]
		for _, place := range places {
			if next[place] < next[first] {
				first = place
			}
		}
		s = append(s, api.Act{Place: first, At: next[first], Ack: between(r, b.Dmin, b.Dmax), Data: between(r, b.Dmin, b.Dmax)})
		next[first] += between(r, b.Tmin, b.Tmax)
	}
	return s
}

// playableScript: acts at any times, with delays up to the longest that may be.
func playableScript(r *rand.Rand, places []int, size int) []api.Act {
	var s []api.Act
	now := r.Intn(3)
	last := map[int]int{}
	for len(s) < size && len(places) > 0 {
		now += []int{0, 0, 0, 1, 1, 2, r.Intn(30)}[r.Intn(7)]
		place := places[r.Intn(len(places))]
		before, found := last[place]
		if found && s[before].At == now {
			continue
		}
		if found {
			longest := now - s[before].At - 1
			s[before].Ack = between(r, 0, longest)
			s[before].Data = between(r, 0, longest)
		}
		last[place] = len(s)
		s = append(s, api.Act{Place: place, At: now})
	}
	for _, i := range last {
		s[i].Ack = between(r, 0, api.MaxTime)
		s[i].Data = between(r, 0, 9)
	}
	return s
}

// spoiled: the script with one number of it changed, most often by one.
func spoiled(r *rand.Rand, s []api.Act) []api.Act {
	if len(s) == 0 {
		return s
	}
	a := &s[r.Intn(len(s))]
	field := []*int{&a.Place, &a.At, &a.Ack, &a.Data}[r.Intn(4)]
	*field += []int{1, -1, 1, -1, 2, -2, anyNumber(r)}[r.Intn(7)]
	return s
}
