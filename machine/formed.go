package machine

import "relay/api"

// formed tells whether code is well formed. The counts come first, so that code that is too long costs no more for being longer.
func formed(c api.Code) bool {
	if len(c.Ops) > api.MaxOps || len(c.Next) > api.MaxOps || len(c.Out) > api.MaxOps {
		return false
	}
	if len(c.Next) != len(c.Cells) {
		return false
	}
	for i, o := range c.Ops {
		if !opFormed(o, i, len(c.Cells)) {
			return false
		}
	}
	return allBelow(c.Next, len(c.Ops)) && allBelow(c.Out, len(c.Ops))
}

// opFormed looks at no field but those that the kind has a use for.
func opFormed(o api.Op, number int, cells int) bool {
	switch o.Kind {
	case api.Const, api.In, api.Link, api.First:
		return true
	case api.Cell:
		return below(o.A, cells)
	case api.Not:
		return below(o.A, number)
	case api.Choose:
		return below(o.A, number) && below(o.B, number) && below(o.C, number)
	}
	if o.Kind < api.Add || o.Kind > api.Or {
		return false
	}
	return below(o.A, number) && below(o.B, number)
}

func allBelow(list []int, end int) bool {
	for _, number := range list {
		if !below(number, end) {
			return false
		}
	}
	return true
}

func below(number int, end int) bool {
	return number >= 0 && number < end
}
