// Package relay: a small language of streams, and its programs at places that wake when they will: see DOC.md.
package relay

import (
	"relay/acts"
	"relay/api"
	"relay/bounds"
	"relay/judge"
	"relay/lay"
	"relay/links"
	"relay/machine"
	"relay/play"
	"relay/steps"
	"relay/streams"
)

// Check tells whether a text is right, and where it is not (P3).
func Check(text string) (api.Errno, int) {
	_, e, at := judge.Text(text)
	return e, at
}

// Print lays a text out anew (P4).
func Print(text string) (string, api.Errno) {
	_, e, _ := judge.Text(text)
	if e != api.OK {
		return "", e
	}
	return lay.Out(text), api.OK
}

// Links tells the links of a program (P5).
func Links(text string) ([]api.Route, api.Errno) {
	p, e, _ := judge.Text(text)
	if e != api.OK {
		return nil, e
	}
	return links.Of(&p), api.OK
}

// Streams tells the values of the equations at the first n instants (P6).
func Streams(text string, ins [][]int, n int) ([][]int, api.Errno) {
	p, e, _ := judge.Text(text)
	if e != api.OK {
		return nil, e
	}
	if n < 0 || n > api.MaxInstants {
		return nil, api.ErrArg
	}
	return streams.Of(&p, ins, n), api.OK
}

// Exec is the machine (P7).
func Exec(c api.Code, n int, cells []int, ins []int, links []int) ([]int, []int, api.Errno) {
	return machine.Exec(c, machine.Step{N: n, Cells: cells, Ins: ins, Links: links})
}

// Code writes the step program of a place (P8).
func Code(text string, place int) (api.Code, api.Errno) {
	p, e, _ := judge.Text(text)
	if e != api.OK {
		return api.Code{}, e
	}
	c := steps.For(&p, place)
	if len(c.Out) == 0 {
		return api.Code{}, api.ErrPlace
	}
	return c, api.OK
}

// Valid tells whether a script keeps to bounds (P9).
func Valid(text string, b api.Bounds, script []api.Act) api.Errno {
	p, e, _ := judge.Text(text)
	if e != api.OK {
		return e
	}
	if !bounds.Fit(b) {
		return api.ErrArg
	}
	if !acts.Playable(&p, script) || !acts.Keep(script, b) {
		return api.ErrScript
	}
	return api.OK
}

// Latest tells by when a place makes its step k (P10).
func Latest(text string, b api.Bounds, k int) (int, api.Errno) {
	p, e, _ := judge.Text(text)
	if e != api.OK {
		return 0, e
	}
	if !bounds.Fit(b) || k < 0 || k > api.MaxInstants {
		return 0, api.ErrArg
	}
	return bounds.Latest(&p, b, k), api.OK
}

// Run plays the places when they wake (P11).
func Run(text string, ins [][]int, script []api.Act) ([]api.Event, api.Errno) {
	p, e, _ := judge.Text(text)
	if e != api.OK {
		return nil, e
	}
	if !acts.Playable(&p, script) {
		return nil, api.ErrScript
	}
	return play.Run(&p, ins, script), api.OK
}
