package memory

import (
	"reflect"
	"testing"

	"almanac/api"
)

// looks holds if the node is up with this horizon, and messages with these
// numbers wait.
func looks(t *testing.T, n *Node, horizon api.Stamp, waiting ...uint8) {
	t.Helper()
	report := n.Look()
	if !report.Up || report.Horizon != horizon || n.Horizon() != horizon || !n.Up() {
		t.Errorf("P15: the node is %+v, want the horizon %d", report, horizon)
	}
	if l := report.Waiting; len(l) != len(waiting) || len(l) > 0 && !reflect.DeepEqual(l, waiting) {
		t.Errorf("P13, P15: the messages %v wait, want %v", l, waiting)
	}
	if len(n.waiting) != len(waiting) {
		t.Errorf("P15: messages are kept that wait no longer: %v", n.waiting)
	}
}

// How far a message's stamp is above the one behind the horizon, at the edges.
func TestHowFarAhead(t *testing.T) {
	for _, c := range []struct {
		stamp   api.Stamp
		horizon api.Stamp
		waiting []uint8
	}{
		{1, 10, nil},
		{9, 10, nil},
		{10, 10, nil},
		{11, 11, nil},
		{12, 10, []uint8{12}},
		{13, 10, []uint8{13}},
		{15, 10, []uint8{15}},
		{16, 10, nil},
		{50, 10, nil},
		{267, 10, nil}, // the number 11, but another commit
	} {
		n := heard(10)
		n.Arrive(c.stamp, 1)
		looks(t, n, c.horizon, c.waiting...)
	}
}

func TestWhatWaitsIsHeardInItsTurn(t *testing.T) {
	n := New(1)
	for _, stamp := range []api.Stamp{5, 3, 4, 3, 5, 5} {
		n.Arrive(stamp, 0)
	}
	looks(t, &n, 0, 3, 4, 5)
	n.Arrive(1, 0)
	looks(t, &n, 1, 3, 4, 5)
	n.Arrive(6, 0) // now it is four ahead
	n.Arrive(7, 0)
	looks(t, &n, 1, 3, 4, 5, 6)
	n.Arrive(2, 0)
	looks(t, &n, 6)
	n.Arrive(3, 0)
	looks(t, &n, 6)
	n.Arrive(7, 0)
	looks(t, &n, 7)
}

// With a gap, what waits behind it goes on waiting.
func TestWhatWaitsBehindAGap(t *testing.T) {
	n := New(1)
	for _, stamp := range []api.Stamp{2, 5, 3} {
		n.Arrive(stamp, 0)
	}
	n.Hear(0)
	looks(t, &n, 3, 5)
	n.Hear(0)
	looks(t, &n, 5)
}

// What waits is told by the stamps: the numbers begin anew.
func TestWaitingOverTheEndOfTheNumbers(t *testing.T) {
	n := heard(252)
	for _, stamp := range []api.Stamp{257, 254, 256, 255} {
		n.Arrive(stamp, 0)
	}
	looks(t, n, 252, 254, 255, 0, 1)
	n.Arrive(253, 0)
	looks(t, n, 257)
}

// Each commit is heard of with its own keys, those that waited too.
func TestEachCommitHasItsKeys(t *testing.T) {
	n := New(api.MaxRoom)
	takes(t, &n, open("a", 0, 0), open("b", 0, 0), open("c", 0, 0), open("d", 0, 0))
	n.Arrive(4, 1<<2)
	n.Arrive(3, 1<<1)
	n.Arrive(3, 1<<3) // waits already
	has(t, &Node{up: true, entries: n.entries}, open("a", 0, 0), open("b", 0, 0), open("c", 0, 0), open("d", 0, 0))
	n.Arrive(1, 0)
	n.Arrive(2, 1<<0)
	has(t, &n, closed("a", 0, 2, 0), closed("b", 0, 3, 0), closed("c", 0, 4, 0), open("d", 0, 0))
}

// Only what is Open, known to less than the commit's stamp, and touched by it
// becomes not Open; nothing else of it changes.
func TestWhatACommitEnds(t *testing.T) {
	n := heard(6)
	n.entries = []held{
		{entry: open("a", 2, 6)},
		{entry: open("a+c", 3, 4)},
		{entry: open("a-b", 4, 7)},
		{entry: open("a×d", 5, 8)},
		{entry: closed("a÷e", 1, 3, 5)},
		{entry: closed("a+f", 1, 9, 5)},
		{entry: open("h", 1, 5)},
		{entry: open("g-c", 1, 5)},
	}
	n.Hear(1<<0 | 1<<2)
	has(t, n,
		closed("a", 2, 7, 6),
		closed("a+c", 3, 7, 4),
		open("a-b", 4, 7),
		open("a×d", 5, 8),
		closed("a÷e", 1, 3, 5),
		closed("a+f", 1, 9, 5),
		open("h", 1, 5),
		closed("g-c", 1, 7, 5))
	n.Hear(1 << 0)
	report := n.Look()
	if report.Entries[2] != closed("a-b", 4, 8, 7) || report.Entries[3] != open("a×d", 5, 8) || report.Entries[0] != closed("a", 2, 7, 6) {
		t.Errorf("P15: the entries are %+v", report.Entries)
	}
}

func TestACommitThatWroteNothing(t *testing.T) {
	n := New(2)
	takes(t, &n, open("a", 0, 0))
	n.Hear(0)
	looks(t, &n, 1)
	has(t, &n, open("a", 0, 0))
	answers(t, &n, "a", span(1, 1), 100, span(0, 1))
}

// What is heard covers more, till a commit touches it.
func TestHeardOfIsCovered(t *testing.T) {
	n := New(2)
	takes(t, &n, open("a", 0, 0))
	for range 5 {
		n.Hear(1 << 1)
	}
	answers(t, &n, "a", span(5, 9), 100, span(0, 5))
	n.Hear(1 << 0)
	answers(t, &n, "a", span(5, 9), 100, span(0, 5))
	answersNot(t, &n, "a", span(6, 9))
}

// To hear of a commit is no use of an entry.
func TestHearingIsNoUse(t *testing.T) {
	n := New(2)
	takes(t, &n, open("a", 0, 0), open("b", 0, 0))
	answers(t, &n, "a", span(0, 0), 100, span(0, 0))
	n.Hear(1 << 7)
	takes(t, &n, open("c", 0, 1))
	has(t, &n, open("a", 0, 0), open("c", 0, 1))
}

// The history has six commits, those that waited among them.
func TestHistoryOfTheLastCommits(t *testing.T) {
	for known := api.Stamp(0); known <= 10; known++ {
		n := New(1)
		for _, stamp := range []api.Stamp{2, 3, 1, 4, 5, 8, 7, 9, 6} {
			n.Arrive(stamp, 1<<(stamp%8))
		}
		looks(t, &n, 9)
		put := open("g", 0, known) // g is written by 6
		switch {
		case known < 3:
			takesNot(t, &n, put)
		case known < 6:
			takes(t, &n, put)
			has(t, &n, closed("g", 0, 6, known))
		default:
			takes(t, &n, put)
			has(t, &n, open("g", 0, max(9, known)))
		}
	}
}

func TestFallAndRise(t *testing.T) {
	n := New(2)
	takes(t, &n, open("a", 0, 0), open("b", 0, 0))
	n.Hear(0)
	n.Arrive(3, 0)
	n.Fall()
	if report := n.Look(); n.Up() || n.Horizon() != 0 || !reflect.DeepEqual(report, api.Report{}) {
		t.Errorf("P16: a node that fell is %+v", report)
	}
	takesNot(t, &n, open("a", 0, 9))
	answersNot(t, &n, "a", span(0, 9))
	n.Arrive(1, 0)
	n.Arrive(2, 0)
	if report := n.Look(); !reflect.DeepEqual(report, api.Report{}) {
		t.Errorf("P15: a node that is not up hears: %+v", report)
	}
	n.Rise(1)
	looks(t, &n, 1)
	has(t, &n)
	takesNot(t, &n, open("a", 0, 0)) // it has not heard of 1 since it came up
	n.Arrive(2, 0)
	looks(t, &n, 2) // 3 waits no longer
	takes(t, &n, open("a", 0, 1), open("b", 0, 2), open("c", 0, 2))
	has(t, &n, open("b", 0, 2), open("c", 0, 2)) // its room is what it was
}

func TestLags(t *testing.T) {
	for _, c := range []struct {
		horizon, stamp api.Stamp
		want           bool
	}{
		{0, 1, false}, {0, 39, false}, {0, 40, false}, {0, 41, true}, {0, 700, true},
		{7, 8, false}, {7, 47, false}, {7, 48, true}, {660, 700, false}, {659, 700, true},
	} {
		n := heard(c.horizon)
		if lags := n.Lags(c.stamp); lags != c.want {
			t.Errorf("P14: with the horizon %d at the commit %d: %v", c.horizon, c.stamp, lags)
		}
		n.Fall()
		if n.Lags(c.stamp) {
			t.Errorf("P14: a node that is not up lags behind %d", c.stamp)
		}
	}
}

func TestWaitingListsAreTheCallers(t *testing.T) {
	n := New(1)
	n.Arrive(3, 0)
	n.Arrive(4, 0)
	mine := n.Look().Waiting
	kept := n.Look().Waiting
	for i := range mine[:cap(mine)] {
		mine[:cap(mine)][i] = 77
	}
	n.Arrive(5, 0)
	looks(t, &n, 0, 3, 4, 5)
	n.Hear(0)
	n.Hear(0)
	looks(t, &n, 5)
	if !reflect.DeepEqual(kept, []uint8{3, 4}) {
		t.Errorf("P2: a look changed when it was told already: %v", kept)
	}
}
