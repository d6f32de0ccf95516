package readers

import (
	"testing"

	"almanac/api"
)

func begin(t *testing.T, r *Readers, span api.Span, want int) {
	t.Helper()
	if number, e := r.Begin(span); number != want || e != api.OK {
		t.Fatalf("P8: Begin = %d, %d, want %d", number, e, want)
	}
}

func end(t *testing.T, r *Readers, number int, want api.Span) {
	t.Helper()
	if span, e := r.End(number); span != want || e != api.OK {
		t.Errorf("P8: End(%d) = %+v, %d, want %+v", number, span, e, want)
	}
}

func noReader(t *testing.T, r *Readers, number int) {
	t.Helper()
	before := *r
	if span, e := r.End(number); span != (api.Span{}) || e != api.ErrReader {
		t.Errorf("P8: End(%d) = %+v, %d, want ErrReader", number, span, e)
	}
	if span, e := r.Span(number); span != (api.Span{}) || e != api.ErrReader {
		t.Errorf("P9: Span(%d) = %+v, %d, want ErrReader", number, span, e)
	}
	r.Narrow(number, api.Span{From: 1, To: 1})
	if *r != before {
		t.Errorf("P1: calls for no reader, %d, changed the readers", number)
	}
}

func noBegin(t *testing.T, r *Readers, want api.Errno) {
	t.Helper()
	before := *r
	if number, e := r.Begin(api.Span{From: 1, To: 2}); number != 0 || e != want {
		t.Errorf("P8: Begin = %d, %d, want the error %d", number, e, want)
	}
	if *r != before {
		t.Error("P1: Begin changed the readers")
	}
}

func spanOf(i int) api.Span {
	return api.Span{From: api.Stamp(i), To: api.Stamp(2 * i)}
}

func TestEndTellsTheReadersOwnSpan(t *testing.T) {
	var r Readers
	noReader(t, &r, 0)
	for i := range 3 {
		begin(t, &r, spanOf(i), i)
	}
	end(t, &r, 1, spanOf(1))
	begin(t, &r, spanOf(3), 3)
	for _, number := range []int{1, 4, -1, -1 << 63, 1<<63 - 1} {
		noReader(t, &r, number)
	}
	end(t, &r, 3, spanOf(3))
	end(t, &r, 0, spanOf(0))
	end(t, &r, 2, spanOf(2))
	for number := range 5 {
		noReader(t, &r, number)
	}
}

func TestManyAtOnce(t *testing.T) {
	var r Readers
	for i := range api.MaxReaders {
		begin(t, &r, spanOf(i), i)
	}
	noBegin(t, &r, api.ErrMany)
	end(t, &r, 2, spanOf(2))
	begin(t, &r, spanOf(6), 6)
	noBegin(t, &r, api.ErrMany)
	end(t, &r, 6, spanOf(6))
	end(t, &r, 5, spanOf(5))
}

func TestBegunEver(t *testing.T) {
	var r Readers
	for i := range api.MaxBegun - api.MaxReaders {
		begin(t, &r, spanOf(i), i)
		end(t, &r, i, spanOf(i))
	}
	for i := api.MaxBegun - api.MaxReaders; i < api.MaxBegun; i++ {
		begin(t, &r, spanOf(i), i)
	}
	noBegin(t, &r, api.ErrMany) // named ahead of ErrFull
	end(t, &r, api.MaxBegun-1, spanOf(api.MaxBegun-1))
	noBegin(t, &r, api.ErrFull)
	noReader(t, &r, api.MaxBegun)
	end(t, &r, api.MaxBegun-2, spanOf(api.MaxBegun-2))
	noBegin(t, &r, api.ErrFull)
}

func spanIs(t *testing.T, r *Readers, number int, want api.Span) {
	t.Helper()
	if span, e := r.Span(number); span != want || e != api.OK {
		t.Errorf("P9: Span(%d) = %+v, %d, want %+v", number, span, e, want)
	}
}

func TestNarrow(t *testing.T) {
	for _, c := range []struct {
		other, want api.Span
	}{
		{api.Span{From: 5, To: 9}, api.Span{From: 5, To: 9}},
		{api.Span{From: 0, To: 20}, api.Span{From: 5, To: 9}},
		{api.Span{From: 6, To: 20}, api.Span{From: 6, To: 9}},
		{api.Span{From: 0, To: 8}, api.Span{From: 5, To: 8}},
		{api.Span{From: 7, To: 7}, api.Span{From: 7, To: 7}},
		{api.Span{From: 9, To: 9}, api.Span{From: 9, To: 9}},
		{api.Span{From: 0, To: 5}, api.Span{From: 5, To: 5}},
	} {
		var r Readers
		begin(t, &r, spanOf(8), 0)
		begin(t, &r, api.Span{From: 5, To: 9}, 1)
		r.Narrow(1, c.other)
		spanIs(t, &r, 1, c.want)
		spanIs(t, &r, 0, spanOf(8))
		end(t, &r, 1, c.want)
		noReader(t, &r, 1)
	}
}

func TestNarrowAgainAndAgain(t *testing.T) {
	var r Readers
	begin(t, &r, api.Span{From: 2, To: 9}, 0)
	for i := range 4 {
		span := api.Span{From: api.Stamp(2 + i), To: api.Stamp(9 - i)}
		r.Narrow(0, span)
		spanIs(t, &r, 0, span)
	}
	end(t, &r, 0, api.Span{From: 5, To: 6})
	begin(t, &r, api.Span{From: 2, To: 9}, 1)
	spanIs(t, &r, 1, api.Span{From: 2, To: 9})
}
