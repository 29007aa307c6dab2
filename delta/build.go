package delta

import (
	"palinode/api"
	"palinode/utf"
)

// Build gives the delta, in the least elements, that puts each change's Text
// in the place of its bytes.
func Build(base int, l []api.Change) (api.Delta, api.Errno) {
	if err := fault(base, l); err != api.OK {
		return api.Delta{}, err
	}
	elems := elements(base, l)
	if len(elems) > api.MaxElems {
		return api.Delta{}, api.ErrMany
	}
	return api.Delta{Base: base, Elems: elems}, api.OK
}

// fault gives the first error, by kind, for which changes can't be made of base
// bytes, however many elements that takes.
func fault(base int, l []api.Change) api.Errno {
	switch {
	case !isBase(base) || !within(base, l):
		return api.ErrRange
	case !ordered(l):
		return api.ErrOrder
	case !valid(l):
		return api.ErrForm
	case sizeOf(base, l) > api.MaxText:
		return api.ErrLong
	}
	return api.OK
}

// within tells whether the changes are all of bytes that there are.
func within(base int, l []api.Change) bool {
	for _, c := range l {
		if c.From < 0 || c.To < c.From || base < c.To {
			return false
		}
	}
	return true
}

// ordered tells whether each change is behind the one ahead of it.
func ordered(l []api.Change) bool {
	for i := 1; i < len(l); i++ {
		ahead, c := l[i-1], l[i]
		if c.From < ahead.To {
			return false
		}
		// Of two at one place nothing would tell whose text is first.
		if c.From == ahead.From {
			return false
		}
	}
	return true
}

// valid tells whether all Texts are.
func valid(l []api.Change) bool {
	for _, c := range l {
		if !utf.Valid(c.Text) {
			return false
		}
	}
	return true
}

// sizeOf tells how many bytes changes, in order, make of base bytes.
func sizeOf(base int, l []api.Change) int {
	n := base
	for _, c := range l {
		n += len(c.Text) - (c.To - c.From)
	}
	return n
}

// elements gives the least elements that tell changes, in order, of base bytes.
func elements(base int, l []api.Change) []api.Elem {
	var elems []api.Elem
	// The texts since the last copy, which are one, so that each byte of them
	// is written once, however many there are.
	var text []byte
	end := 0
	for _, c := range l {
		if c.From == c.To && c.Text == "" {
			// What it stands between is one copy.
			continue
		}
		if end < c.From {
			elems = append(addText(elems, text), api.Elem{From: end, To: c.From})
			text = text[:0]
		}
		text = append(text, c.Text...)
		end = c.To
	}
	elems = addText(elems, text)
	if end < base {
		elems = append(elems, api.Elem{From: end, To: base})
	}
	return elems
}

// addText gives elems with text, if there is any, behind them. It may write to
// the memory of elems.
func addText(elems []api.Elem, text []byte) []api.Elem {
	if len(text) == 0 {
		return elems
	}
	return append(elems, api.Elem{Text: string(text)})
}
