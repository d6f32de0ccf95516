// Package readers keeps the readers that have begun and not ended, and their
// spans (P8 to P10).
package readers

import "almanac/api"

type reader struct {
	reads  bool
	number int
	span   api.Span
}

// Readers is who reads; the zero Readers is nobody. Of those that have ended
// nothing is kept: their numbers do not come again.
type Readers struct {
	begun int
	seats [api.MaxReaders]reader
}

// Begin begins a reader with a span, and tells its number.
func (r *Readers) Begin(span api.Span) (int, api.Errno) {
	seat, free := r.freeSeat()
	if !free {
		return 0, api.ErrMany
	}
	if r.begun >= api.MaxBegun {
		return 0, api.ErrFull
	}
	number := r.begun
	r.seats[seat] = reader{reads: true, number: number, span: span}
	r.begun++
	return number, api.OK
}

// Span tells the span of a reader.
func (r *Readers) Span(number int) (api.Span, api.Errno) {
	seat, found := r.seatOf(number)
	if !found {
		return api.Span{}, api.ErrReader
	}
	return r.seats[seat].span, api.OK
}

// Narrow leaves a reader the part of its span that is in another one too, which
// has at least one of its stamps.
func (r *Readers) Narrow(number int, other api.Span) {
	seat, found := r.seatOf(number)
	if !found {
		return
	}
	span := r.seats[seat].span
	if span.From < other.From {
		span.From = other.From
	}
	if span.To > other.To {
		span.To = other.To
	}
	r.seats[seat].span = span
}

// End ends a reader, and tells its span.
func (r *Readers) End(number int) (api.Span, api.Errno) {
	seat, found := r.seatOf(number)
	if !found {
		return api.Span{}, api.ErrReader
	}
	span := r.seats[seat].span
	r.seats[seat] = reader{}
	return span, api.OK
}

func (r *Readers) freeSeat() (int, bool) {
	for i, x := range r.seats {
		if !x.reads {
			return i, true
		}
	}
	return 0, false
}

func (r *Readers) seatOf(number int) (int, bool) {
	for i, x := range r.seats {
		if x.reads && x.number == number {
			return i, true
		}
	}
	return 0, false
}
