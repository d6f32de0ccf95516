package store

import (
	"math/rand"
	"reflect"
	"testing"

	"almanac/api"
)

func commitOK(t *testing.T, s *Store, l []api.Write, want api.Stamp) {
	t.Helper()
	if stamp, e := s.Commit(l); stamp != want || e != api.OK {
		t.Fatalf("P6: Commit(%v) = %d, %d, want %d", l, stamp, e, want)
	}
}

func stateIs(t *testing.T, s *Store, stamp api.Stamp, want api.State) {
	t.Helper()
	if state := s.At(stamp); state != want {
		t.Errorf("P6: the state %d is %v, want %v", stamp, state, want)
	}
}

func TestCommitMakesStates(t *testing.T) {
	var s Store
	commitOK(t, &s, []api.Write{{Key: 0, Value: 5}, {Key: 7, Value: -1}}, 1)
	commitOK(t, &s, nil, 2)
	commitOK(t, &s, []api.Write{{Key: 0, Value: 6}, {Key: 1, Value: 9}, {Key: 0, Value: 7}}, 3)
	commitOK(t, &s, []api.Write{}, 4)
	stateIs(t, &s, 0, api.State{})
	stateIs(t, &s, 1, api.State{0: 5, 7: -1})
	stateIs(t, &s, 2, api.State{0: 5, 7: -1})
	stateIs(t, &s, 3, api.State{0: 7, 1: 9, 7: -1})
	stateIs(t, &s, 4, api.State{0: 7, 1: 9, 7: -1})
	stateIs(t, &s, 5, api.State{})
	stateIs(t, &s, 1<<64-1, api.State{})
}

func TestCommitEightWritesOfOneKey(t *testing.T) {
	var s Store
	var l []api.Write
	for i := range api.MaxWrites {
		l = append(l, api.Write{Key: 3, Value: int32(i + 1)})
	}
	commitOK(t, &s, l, 1)
	stateIs(t, &s, 1, api.State{3: 8})
}

func TestCommitErrorsChangeNothing(t *testing.T) {
	var s, twin Store
	l := []api.Write{{Key: 2, Value: 4}}
	commitOK(t, &s, l, 1)
	commitOK(t, &twin, l, 1)
	for _, c := range []struct {
		l []api.Write
		e api.Errno
	}{
		{make([]api.Write, 9), api.ErrLong},
		{append(make([]api.Write, 8), api.Write{Key: 8}), api.ErrLong},
		{[]api.Write{{Key: 2, Value: 1}, {Key: 8}}, api.ErrKey},
		{[]api.Write{{Key: -1}, {Key: 2, Value: 1}}, api.ErrKey},
		{[]api.Write{{Key: -1 << 63}}, api.ErrKey},
		{[]api.Write{{Key: 1<<63 - 1}}, api.ErrKey},
		{append(make([]api.Write, 7), api.Write{Key: 256}), api.ErrKey},
	} {
		if stamp, e := s.Commit(c.l); stamp != 0 || e != c.e {
			t.Errorf("P6: Commit(%v) = %d, %d, want %d", c.l, stamp, e, c.e)
		}
		if !reflect.DeepEqual(s, twin) {
			t.Fatalf("P1: Commit(%v) changed the store", c.l)
		}
	}
}

func TestCommitFull(t *testing.T) {
	var s Store
	for i := range api.MaxStamp {
		commitOK(t, &s, []api.Write{{Key: i % api.Keys, Value: int32(i)}}, api.Stamp(i+1))
	}
	last := s.At(api.MaxStamp)
	for _, c := range []struct {
		l []api.Write
		e api.Errno
	}{
		{nil, api.ErrFull}, {[]api.Write{{Key: 0, Value: 1}}, api.ErrFull},
		{[]api.Write{{Key: 8}}, api.ErrKey}, {make([]api.Write, 9), api.ErrLong},
	} {
		if stamp, e := s.Commit(c.l); stamp != 0 || e != c.e {
			t.Errorf("P6: Commit(%v) of a full store = %d, %d, want %d", c.l, stamp, e, c.e)
		}
	}
	if newest := s.Newest(); newest != api.MaxStamp {
		t.Errorf("P6: the newest stamp is %d", newest)
	}
	stateIs(t, &s, api.MaxStamp, last)
	stateIs(t, &s, 1, api.State{})
	stateIs(t, &s, 10, api.State{8, 9, 2, 3, 4, 5, 6, 7})
}

func TestCommitLeavesItsListAlone(t *testing.T) {
	var s Store
	whole := []api.Write{{Key: 1, Value: 1}, {Key: 2, Value: 2}, {Key: 3, Value: 3}, {Key: 4, Value: 4}}
	l := whole[:2]
	commitOK(t, &s, l, 1)
	want := []api.Write{{Key: 1, Value: 1}, {Key: 2, Value: 2}, {Key: 3, Value: 3}, {Key: 4, Value: 4}}
	if !reflect.DeepEqual(whole, want) {
		t.Errorf("P2: Commit wrote into its list: %v", whole)
	}
	l[0] = api.Write{Key: 5, Value: 9}
	stateIs(t, &s, 1, api.State{1: 1, 2: 2})
	commitOK(t, &s, nil, 2)
	stateIs(t, &s, 2, api.State{1: 1, 2: 2})
}

func TestTick(t *testing.T) {
	var s Store
	for i := range api.MaxClock {
		if clock := s.Clock(); clock != i {
			t.Fatalf("P7: the clock is %d, want %d", clock, i)
		}
		if e := s.Tick(); e != api.OK {
			t.Fatalf("P7: Tick at %d = %d", i, e)
		}
	}
	for range 2 {
		if e := s.Tick(); e != api.ErrFull {
			t.Errorf("P7: Tick of the last clock = %d", e)
		}
	}
	if clock := s.Clock(); clock != api.MaxClock {
		t.Errorf("P7: the clock is %d", clock)
	}
	commitOK(t, &s, nil, 1)
}

func TestSince(t *testing.T) {
	var s Store
	for stamp, tick := range []int{0, 3, 3, 5} {
		for s.Clock() < tick {
			s.Tick()
		}
		commitOK(t, &s, nil, api.Stamp(stamp+1))
	}
	for _, c := range []struct {
		tick int
		want api.Stamp
	}{
		{-1 << 63, 0}, {-1, 0}, {0, 0}, {1, 1}, {3, 1}, {4, 3}, {5, 3}, {6, 4}, {1<<63 - 1, 4},
	} {
		if stamp := s.Since(c.tick); stamp != c.want {
			t.Errorf("P8: Since(%d) = %d, want %d", c.tick, stamp, c.want)
		}
	}
}

func rightIs(t *testing.T, s *Store, keys uint8, stamp api.Stamp, from api.Stamp, till api.Stamp) {
	t.Helper()
	if f, g := s.Right(keys, stamp); f != from || g != till {
		t.Errorf("P10: Right(%b, %d) = %d, %d, want %d, %d", keys, stamp, f, g, from, till)
	}
}

func TestRight(t *testing.T) {
	var s Store
	rightIs(t, &s, 255, 0, 0, 0)
	commitOK(t, &s, []api.Write{{Key: 0, Value: 1}}, 1)
	commitOK(t, &s, nil, 2)
	commitOK(t, &s, []api.Write{{Key: 1, Value: 2}, {Key: 7, Value: 2}, {Key: 1, Value: 0}}, 3)
	commitOK(t, &s, []api.Write{{Key: 0, Value: 1}}, 4) // as it was: written all the same
	rightIs(t, &s, 1, 0, 0, 1)
	rightIs(t, &s, 1, 1, 1, 4)
	rightIs(t, &s, 1, 3, 1, 4)
	rightIs(t, &s, 1, 4, 4, 0)
	rightIs(t, &s, 2, 2, 0, 3)
	rightIs(t, &s, 2, 3, 3, 0)
	rightIs(t, &s, 2, 4, 3, 0)
	rightIs(t, &s, 128, 4, 3, 0)
	rightIs(t, &s, 3, 2, 1, 3)
	rightIs(t, &s, 3, 3, 3, 4)
	rightIs(t, &s, 4, 3, 0, 0)
	rightIs(t, &s, 0, 2, 0, 0)
	commitOK(t, &s, []api.Write{{Key: 2, Value: 1}}, 5)
	rightIs(t, &s, 4, 3, 0, 5)
	rightIs(t, &s, 6, 4, 3, 5)
}

// touches: whether one of the writes has a key of the set.
func touches(l []api.Write, keys uint8) bool {
	for _, x := range l {
		if keys>>x.Key&1 == 1 {
			return true
		}
	}
	return false
}

func TestRightByTheWords(t *testing.T) {
	r := rand.New(rand.NewSource(1))
	var s Store
	lists := [][]api.Write{nil}
	for stamp := 1; stamp <= 60; stamp++ {
		var l []api.Write
		for range r.Intn(3) {
			l = append(l, api.Write{Key: r.Intn(api.Keys), Value: int32(r.Intn(2))})
		}
		lists = append(lists, l)
		commitOK(t, &s, l, api.Stamp(stamp))
	}
	for keys := range 256 {
		for at := range lists {
			from := at
			for from > 0 && !touches(lists[from], uint8(keys)) {
				from--
			}
			till := at + 1
			for till < len(lists) && !touches(lists[till], uint8(keys)) {
				till++
			}
			if till == len(lists) {
				till = 0
			}
			rightIs(t, &s, uint8(keys), api.Stamp(at), api.Stamp(from), api.Stamp(till))
		}
	}
}

func TestRightOfAFullStore(t *testing.T) {
	var s Store
	for i := range api.MaxStamp {
		commitOK(t, &s, []api.Write{{Key: i % 2}}, api.Stamp(i+1))
	}
	rightIs(t, &s, 2, api.MaxStamp, api.MaxStamp, 0)
	rightIs(t, &s, 1, api.MaxStamp, api.MaxStamp-1, 0)
	rightIs(t, &s, 2, api.MaxStamp-1, api.MaxStamp-2, api.MaxStamp)
	rightIs(t, &s, 2, 256, 256, 258)
	rightIs(t, &s, 4, 0, 0, 0)
}

func TestWrote(t *testing.T) {
	var s Store
	commitOK(t, &s, []api.Write{{Key: 0, Value: 1}}, 1)
	commitOK(t, &s, nil, 2)
	commitOK(t, &s, []api.Write{{Key: 7, Value: 2}, {Key: 1, Value: 0}, {Key: 7, Value: 0}}, 3)
	for stamp, want := range []uint8{0, 1, 0, 130, 0, 0} {
		if keys := s.Wrote(api.Stamp(stamp)); keys != want {
			t.Errorf("P14: the commit %d wrote the keys %b, want %b", stamp, keys, want)
		}
	}
	if keys := s.Wrote(1<<64 - 1); keys != 0 {
		t.Errorf("P14: a commit that is not there wrote the keys %b", keys)
	}
}
