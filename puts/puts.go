// Package puts keeps the entries that are on their way to be remembered (P10, P11).
package puts

import "almanac/api"

// Puts is what is on its way, one behind the other; the zero Puts is nothing.
type Puts struct {
	entries []api.Entry
}

// Join lets a put join the others, behind them, if there is room for it.
func (p *Puts) Join(put api.Entry) {
	if len(p.entries) >= api.MaxPuts {
		return
	}
	p.entries = append(p.entries, put)
}

// List tells the puts in their order, in a list that is the caller's.
func (p *Puts) List() []api.Entry {
	return append([]api.Entry{}, p.entries...)
}

// Take takes a put away, and tells it.
func (p *Puts) Take(i int) (api.Entry, api.Errno) {
	if i < 0 || i >= len(p.entries) {
		return api.Entry{}, api.ErrArg
	}
	put := p.entries[i]
	var rest []api.Entry
	for j, x := range p.entries {
		if j != i {
			rest = append(rest, x)
		}
	}
	p.entries = rest
	return put, api.OK
}
