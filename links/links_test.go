package links

import (
	"reflect"
	"testing"

	"almanac/api"
)

// sent is a link to which the messages of these commits were sent; the keys that
// each wrote are another number than its own.
func sent(stamps ...api.Stamp) *Link {
	var k Link
	for _, stamp := range stamps {
		k.Send(messageOf(stamp))
	}
	return &k
}

func messageOf(stamp api.Stamp) Sent {
	return Sent{Stamp: stamp, Keys: uint8(stamp*3 + 1)}
}

func listIs(t *testing.T, k *Link, stamps ...api.Stamp) {
	t.Helper()
	var want []api.Message
	for _, stamp := range stamps {
		want = append(want, api.Message{Number: uint8(stamp % 256), Keys: messageOf(stamp).Keys})
	}
	if l := k.List(); len(l) != len(want) || len(l) > 0 && !reflect.DeepEqual(l, want) {
		t.Errorf("P14: the messages are %v, want %v", l, want)
	}
}

func TestSendBehindTheOthers(t *testing.T) {
	listIs(t, &Link{})
	listIs(t, sent(1), 1)
	listIs(t, sent(3, 1, 3, 2), 3, 1, 3, 2)
}

func TestNumbersBeginAnew(t *testing.T) {
	k := sent(254, 255, 256, 257, 511, 512, 700)
	want := []uint8{254, 255, 0, 1, 255, 0, 188}
	for i, x := range k.List() {
		if x.Number != want[i] {
			t.Errorf("P14: message %d has the number %d, want %d", i, x.Number, want[i])
		}
	}
	if x, e := k.Take(3); x.Stamp != 257 || e != api.OK {
		t.Errorf("P15: the message with the number 1 is of the commit %d, %d", x.Stamp, e)
	}
}

func TestSendUpToMaxFlight(t *testing.T) {
	k := sent(1, 2, 3, 4, 5, 6, 7, 8, 9, 10, 11, 12, 13, 14)
	listIs(t, k, 1, 2, 3, 4, 5, 6, 7, 8, 9, 10, 11, 12)
	k.Take(4)
	k.Send(messageOf(15))
	k.Send(messageOf(16))
	listIs(t, k, 1, 2, 3, 4, 6, 7, 8, 9, 10, 11, 12, 15)
}

func TestAge(t *testing.T) {
	for _, c := range []struct {
		t    api.Stamp
		rest []api.Stamp
	}{
		{1, []api.Stamp{2, 1, 5, 3, 1}},
		{99, []api.Stamp{2, 1, 5, 3, 1}},
		{100, []api.Stamp{2, 1, 5, 3, 1}},
		{101, []api.Stamp{2, 5, 3}},
		{102, []api.Stamp{5, 3}},
		{104, []api.Stamp{5}},
		{105, nil},
		{700, nil},
	} {
		k := sent(2, 1, 5, 3, 1)
		k.Age(c.t)
		listIs(t, k, c.rest...)
	}
}

func TestAgeMakesRoom(t *testing.T) {
	k := sent(1, 2, 3, 4, 5, 6, 7, 8, 9, 10, 11, 12)
	k.Age(102)
	k.Send(messageOf(102))
	listIs(t, k, 3, 4, 5, 6, 7, 8, 9, 10, 11, 12, 102)
}

func TestClear(t *testing.T) {
	k := sent(1, 2, 3)
	k.Clear()
	listIs(t, k)
	k.Send(messageOf(4))
	listIs(t, k, 4)
}

func TestTakeEach(t *testing.T) {
	for i, rest := range [][]api.Stamp{{2, 3, 4}, {1, 3, 4}, {1, 2, 4}, {1, 2, 3}} {
		k := sent(1, 2, 3, 4)
		want := messageOf(api.Stamp(i + 1))
		if x, e := k.Take(i); x != want || e != api.OK {
			t.Errorf("P14: Take(%d) = %v, %d, want %v", i, x, e, want)
		}
		listIs(t, k, rest...)
	}
}

func TestCopyBehindTheOthers(t *testing.T) {
	k := sent(1, 2)
	for i := range 3 {
		if e := k.Copy(i); e != api.OK {
			t.Errorf("P14: Copy(%d) = %d", i, e)
		}
	}
	listIs(t, k, 1, 2, 1, 2, 1)
	if x, e := k.Take(4); x != messageOf(1) || e != api.OK {
		t.Errorf("P14: a copy is %v, %d", x, e)
	}
}

func TestTakeAndCopyErrors(t *testing.T) {
	for _, k := range []*Link{{}, sent(1, 2, 3), sent(1, 2, 3, 4, 5, 6, 7, 8, 9, 10, 11, 12)} {
		n := len(k.List())
		for _, i := range []int{-1, n, n + 1, 1 << 32, -1 << 63, 1<<63 - 1} {
			if x, e := k.Take(i); x != (Sent{}) || e != api.ErrArg {
				t.Errorf("P14: Take(%d) of %d = %v, %d, want ErrArg", i, n, x, e)
			}
			if e := k.Copy(i); e != api.ErrArg {
				t.Errorf("P14: Copy(%d) of %d = %d, want ErrArg", i, n, e)
			}
		}
		if len(k.List()) != n {
			t.Errorf("P1: calls that were refused changed the messages: %v", k.List())
		}
	}
}

func TestCopyUpToMaxFlight(t *testing.T) {
	k := sent(1, 2, 3, 4, 5, 6, 7, 8, 9, 10, 11)
	if e := k.Copy(10); e != api.OK {
		t.Errorf("P14: Copy among eleven = %d", e)
	}
	for i := range api.MaxFlight {
		if e := k.Copy(i); e != api.ErrFull {
			t.Errorf("P14: Copy(%d) among twelve = %d, want ErrFull", i, e)
		}
	}
	listIs(t, k, 1, 2, 3, 4, 5, 6, 7, 8, 9, 10, 11, 11)
}

func TestListsAreTheCallers(t *testing.T) {
	k := sent(1, 2, 3)
	mine := k.List()
	kept := k.List()
	for i := range mine[:cap(mine)] {
		mine[:cap(mine)][i] = api.Message{Number: 77, Keys: 77}
	}
	k.Send(messageOf(4))
	k.Copy(0)
	listIs(t, k, 1, 2, 3, 4, 1)
	k.Take(0)
	if want := sent(1, 2, 3).List(); !reflect.DeepEqual(kept, want) {
		t.Errorf("P2: a list changed when it was told already: %v", kept)
	}
}
