package judge

import (
	"relay/links"
	"relay/order"
	"relay/tree"
)

// cycle finds the first equation that hangs on itself, in however many steps.
func cycle(p *tree.Program) (int, bool) {
	hangs := order.Hangs(p)
	follow(hangs)
	for i, d := range p.Decls {
		if hangs[i][i] {
			return d.At, true
		}
	}
	return 0, false
}

// loop finds the first equation at a place that waits for itself, in however many steps.
func loop(p *tree.Program) (int, bool) {
	waits := links.Waits(p)
	follow(waits)
	for _, d := range p.Equations() {
		if waits[d.Place][d.Place] {
			return d.At, true
		}
	}
	return 0, false
}

// follow adds to what leads in one step what leads in several. It is enough to let each in turn be the one in between.
func follow(leads [][]bool) {
	for between := range leads {
		for from := range leads {
			if !leads[from][between] {
				continue
			}
			for to := range leads {
				if leads[between][to] {
					leads[from][to] = true
				}
			}
		}
	}
}
