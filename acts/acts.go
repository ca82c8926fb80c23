// Package acts tells which scripts can be played, and which of them keep to bounds.
package acts

import (
	"relay/api"
	"relay/tree"
)

// Playable tells whether a script can be played by a program. The count comes first, so that a script that is too long costs no more for being longer.
func Playable(p *tree.Program, script []api.Act) bool {
	if len(script) > api.MaxActs {
		return false
	}
	equations := p.Equations()
	last := 0
	for _, a := range script {
		if !peopled(equations, a.Place) || !within(a.At, last, api.MaxTime) {
			return false
		}
		if !bothWithin(a, 0, api.MaxTime) {
			return false
		}
		last = a.At
	}
	return apart(script)
}

func peopled(equations []tree.Decl, place int) bool {
	for _, d := range equations {
		if d.Place == place {
			return true
		}
	}
	return false
}

func within(number int, least int, most int) bool {
	return number >= least && number <= most
}

// bothWithin is about the delays of an act.
func bothWithin(a api.Act, least int, most int) bool {
	return within(a.Ack, least, most) && within(a.Data, least, most)
}

// apart tells whether all that an act sets going has come when its place wakes again. Of a place's last act nothing is asked.
func apart(script []api.Act) bool {
	for i, a := range script {
		before, found := ahead(script, i)
		if found && !bothWithin(before, 0, a.At-before.At-1) {
			return false
		}
	}
	return true
}

// ahead finds the act that is the last of its place ahead of act i.
func ahead(script []api.Act, i int) (api.Act, bool) {
	for k := i - 1; k >= 0; k-- {
		if script[k].Place == script[i].Place {
			return script[k], true
		}
	}
	return api.Act{}, false
}

// Keep tells whether a playable script keeps to bounds.
func Keep(script []api.Act, b api.Bounds) bool {
	for i, a := range script {
		if !bothWithin(a, b.Dmin, b.Dmax) {
			return false
		}
		before, found := ahead(script, i)
		if found && !within(a.At-before.At, b.Tmin, b.Tmax) {
			return false
		}
		if !found && a.At > b.Tmax {
			return false
		}
	}
	return true
}
