package almanac

import (
	"reflect"
	"strings"
	"testing"

	"almanac/api"
)

func read(t *testing.T, w *World, reader int, query string, want int32) {
	t.Helper()
	if value, hit, e := w.Read(reader, query); value != want || hit || e != api.OK {
		t.Errorf("P10: Read(%d, %q) = %d, %v, %d, want %d, false", reader, query, value, hit, e, want)
	}
}

func noRead(t *testing.T, w *World, reader int, query string, want api.Errno) {
	t.Helper()
	if value, hit, e := w.Read(reader, query); value != 0 || hit || e != want {
		t.Errorf("P9: Read(%d, %.50q) = %d, %v, %d, want the error %d", reader, query, value, hit, e, want)
	}
}

func drop(t *testing.T, w *World, i int) {
	t.Helper()
	if e := w.Drop(i); e != api.OK {
		t.Errorf("P11: Drop(%d) = %d", i, e)
	}
}

func noDrop(t *testing.T, w *World, i int) {
	t.Helper()
	if e := w.Drop(i); e != api.ErrArg {
		t.Errorf("P11: Drop(%d) = %d, want ErrArg", i, e)
	}
}

func putsAre(t *testing.T, w *World, want ...api.Entry) {
	t.Helper()
	l := w.Puts()
	if len(l) != len(want) || len(l) > 0 && !reflect.DeepEqual(l, want) {
		t.Errorf("P10, P11: the puts are\n%+v, want\n%+v", l, want)
	}
}

func set(key int, value int32) api.Write {
	return api.Write{Key: key, Value: value}
}

func TestReadOfTheDocument(t *testing.T) {
	w := newWorld(t, 1, 2)
	commit(t, w, 1, set(0, 1))
	commit(t, w, 2, set(1, 2))
	commit(t, w, 3, set(0, 3))
	begin(t, w, 0, 0)
	begin(t, w, 0, 1)
	read(t, w, 0, "a", 3)
	end(t, w, 0, 3, 3)
	read(t, w, 1, "b", 2)
	putsAre(t, w,
		api.Entry{Query: "a", Value: 3, From: 3, Open: true, Known: 3},
		api.Entry{Query: "b", Value: 2, From: 2, Open: true, Known: 3})
	end(t, w, 1, 2, 3)
}

// What is right from ahead of the span on leaves it as it is, but the put tells
// the whole of it.
func TestRightFromAheadOfTheSpan(t *testing.T) {
	w := newWorld(t, 2, 1)
	commit(t, w, 1, set(0, 7))
	commit(t, w, 2, set(1, 1))
	tick(t, w)
	begin(t, w, 0, 0)
	read(t, w, 0, "a", 7)
	read(t, w, 0, "c", 0)
	putsAre(t, w,
		api.Entry{Query: "a", Value: 7, From: 1, Open: true, Known: 2},
		api.Entry{Query: "c", Open: true, Known: 2})
	end(t, w, 0, 2, 2)
}

func TestReaderOfAnOldState(t *testing.T) {
	w := newWorld(t, 3, 6)
	commit(t, w, 1, set(0, 10))
	begin(t, w, 0, 0)
	commit(t, w, 2) // writes nothing, and touches nothing
	commit(t, w, 3, set(1, 20))
	commit(t, w, 4, set(0, 10)) // touches, though the value is as it was
	read(t, w, 0, "a", 10)
	read(t, w, 0, "b", 0)
	read(t, w, 0, "b-a", -10)
	read(t, w, 0, "c", 0)
	commit(t, w, 5, set(2, 1))
	read(t, w, 0, "c", 0)
	putsAre(t, w,
		api.Entry{Query: "a", Value: 10, From: 1, Till: 4, Known: 4},
		api.Entry{Query: "b", From: 0, Till: 3, Known: 4},
		api.Entry{Query: "b-a", Value: -10, From: 1, Till: 3, Known: 4},
		api.Entry{Query: "c", Open: true, Known: 4},
		api.Entry{Query: "c", Till: 5, Known: 5})
	end(t, w, 0, 1, 1)
}

func TestSpanBecomesNarrower(t *testing.T) {
	w := newWorld(t, 1, 1)
	for key := range api.Keys {
		commit(t, w, api.Stamp(key+1), set(key, int32(key)))
	}
	for i, c := range []struct {
		queries string
		from    api.Stamp
	}{
		{"", 0}, {"a", 1}, {"a d", 4}, {"d a", 4}, {"d×a", 4}, {"h", 8}, {"h a", 8}, {"g-g", 7},
	} {
		begin(t, w, 0, i)
		for _, query := range strings.Fields(c.queries) {
			if _, hit, e := w.Read(i, query); hit || e != api.OK {
				t.Errorf("P10: Read(%d, %q) = %v, %d", i, query, hit, e)
			}
		}
		end(t, w, i, c.from, 8)
	}
}

// Where a read tells that the writes of a commit are done in their order (P6).
func TestReadTellsTheLastWrite(t *testing.T) {
	w := newWorld(t, 1, 1)
	commit(t, w, 1, set(7, 1), set(3, 2), set(7, 3), set(0, 4), set(7, -5))
	begin(t, w, 0, 0)
	read(t, w, 0, "h", -5)
	read(t, w, 0, "h-d×a", -28)
}

func TestReadsOfLongQueries(t *testing.T) {
	w := newWorld(t, 2, 2)
	commit(t, w, 1, set(0, 2))
	begin(t, w, 0, 0)
	eight := strings.Repeat("a×", 7) + "a"
	read(t, w, 0, eight, 256)
	putsAre(t, w, api.Entry{Query: eight, Value: 256, From: 1, Open: true, Known: 1})
	noRead(t, w, 0, eight+"×a", api.ErrLong)
}

func TestReadErrors(t *testing.T) {
	w := newWorld(t, 1, 1)
	noRead(t, w, 0, "a", api.ErrReader)
	begin(t, w, 0, 0)
	begin(t, w, 0, 1)
	end(t, w, 0, 0, 0)
	for _, reader := range oddNumbers {
		if reader == 1 {
			continue
		}
		noRead(t, w, reader, "a", api.ErrReader)
		noRead(t, w, reader, "", api.ErrReader)
		noRead(t, w, reader, strings.Repeat("a", 41), api.ErrReader)
	}
	noRead(t, w, 1, "", api.ErrQuery)
	noRead(t, w, 1, "a\xd7b", api.ErrQuery)
	noRead(t, w, 1, "i", api.ErrQuery)
	noRead(t, w, 1, strings.Repeat("a+", 8)+"a", api.ErrLong)
	noRead(t, w, 1, strings.Repeat("?", 41), api.ErrLong)
	putsAre(t, w)
	end(t, w, 1, 0, 0)
}

// A read that finds MaxPuts puts answers, and makes the span narrower, as any other.
func TestReadsWithoutRoomForAPut(t *testing.T) {
	w := newWorld(t, 1, 1)
	commit(t, w, 1, set(0, 4))
	commit(t, w, 2, set(1, 5))
	begin(t, w, 0, 0)
	b := api.Entry{Query: "b", Value: 5, From: 2, Open: true, Known: 2}
	var want []api.Entry
	for range api.MaxPuts {
		read(t, w, 0, "c", 0)
		want = append(want, api.Entry{Query: "c", Open: true, Known: 2})
		putsAre(t, w, want...)
	}
	read(t, w, 0, "b", 5)
	putsAre(t, w, want...)
	end(t, w, 0, 2, 2)
	drop(t, w, 3)
	begin(t, w, 0, 1)
	read(t, w, 1, "b", 5)
	want[9] = b
	putsAre(t, w, want...)
	end(t, w, 1, 2, 2)
}

func TestDrop(t *testing.T) {
	w := newWorld(t, 1, 1)
	noDrop(t, w, 0)
	begin(t, w, 0, 0)
	for _, query := range []string{"a", "b", "c", "d"} {
		read(t, w, 0, query, 0)
	}
	for _, i := range []int{-1, 4, 5, 256, 1 << 32, -1 << 63, 1<<63 - 1} {
		noDrop(t, w, i)
	}
	drop(t, w, 1)
	drop(t, w, 2)
	putsAre(t, w, api.Entry{Query: "a", Open: true}, api.Entry{Query: "c", Open: true})
	noDrop(t, w, 2)
	drop(t, w, 0)
	drop(t, w, 0)
	putsAre(t, w)
	noDrop(t, w, 0)
	read(t, w, 0, "h", 0)
	putsAre(t, w, api.Entry{Query: "h", Open: true})
}

// Puts go on their way on their own: neither their reader's end nor a commit changes them.
func TestPutsStayAsTheyAre(t *testing.T) {
	w := newWorld(t, 2, 2)
	begin(t, w, 0, 0)
	read(t, w, 0, "a", 0)
	end(t, w, 0, 0, 0)
	commit(t, w, 1, set(0, 1))
	tick(t, w)
	putsAre(t, w, api.Entry{Query: "a", Open: true})
}

func TestPutListsAreTheCallers(t *testing.T) {
	w := newWorld(t, 1, 1)
	begin(t, w, 0, 0)
	read(t, w, 0, "a", 0)
	read(t, w, 0, "b", 0)
	a, b := api.Entry{Query: "a", Open: true}, api.Entry{Query: "b", Open: true}
	mine := w.Puts()
	kept := w.Puts()
	whole := mine[:cap(mine)]
	for i := range whole {
		whole[i] = api.Entry{Query: "mine"}
	}
	read(t, w, 0, "c", 0)
	putsAre(t, w, a, b, api.Entry{Query: "c", Open: true})
	drop(t, w, 0)
	if !reflect.DeepEqual(kept, []api.Entry{a, b}) || mine[0].Query != "mine" {
		t.Errorf("P2: lists that were told already changed: %v, %v", kept, mine)
	}
}
