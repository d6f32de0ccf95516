package almanac

import (
	"reflect"
	"testing"

	"almanac/api"
)

// reportIs compares a node with all that Look should tell of it; lists without
// entries are alike.
func reportIs(t *testing.T, w *World, node int, want api.Report) {
	t.Helper()
	report, e := w.Look(node)
	if e != api.OK || report.Up != want.Up || report.Horizon != want.Horizon {
		t.Errorf("P13: Look(%d) = %+v, %d, want %+v", node, report, e, want)
	}
	if l := report.Waiting; len(l) != len(want.Waiting) || len(l) > 0 && !reflect.DeepEqual(l, want.Waiting) {
		t.Errorf("P13, P15: at node %d the messages %v wait, want %v", node, l, want.Waiting)
	}
	if l := report.Entries; len(l) != len(want.Entries) || len(l) > 0 && !reflect.DeepEqual(l, want.Entries) {
		t.Errorf("P12, P13: node %d has\n%+v, want\n%+v", node, l, want.Entries)
	}
}

// upWith is a node that is up, in which nothing waits.
func upWith(horizon api.Stamp, entries ...api.Entry) api.Report {
	return api.Report{Up: true, Horizon: horizon, Entries: entries}
}

func flightIs(t *testing.T, w *World, node int, want ...api.Message) {
	t.Helper()
	l, e := w.Flight(node)
	if e != api.OK || len(l) != len(want) || len(l) > 0 && !reflect.DeepEqual(l, want) {
		t.Errorf("P14: Flight(%d) = %v, %d, want %v", node, l, e, want)
	}
}

func noFlight(t *testing.T, w *World, node int) {
	t.Helper()
	if l, e := w.Flight(node); len(l) != 0 || e != api.ErrNode {
		t.Errorf("P14: Flight(%d) = %v, %d, want ErrNode", node, l, e)
	}
}

func deliver(t *testing.T, w *World, node int, i int) {
	t.Helper()
	if e := w.Deliver(node, i); e != api.OK {
		t.Errorf("P15: Deliver(%d, %d) = %d", node, i, e)
	}
}

func lose(t *testing.T, w *World, node int, i int) {
	t.Helper()
	if e := w.Lose(node, i); e != api.OK {
		t.Errorf("P14: Lose(%d, %d) = %d", node, i, e)
	}
}

func copyOf(t *testing.T, w *World, node int, i int) {
	t.Helper()
	if e := w.Copy(node, i); e != api.OK {
		t.Errorf("P14: Copy(%d, %d) = %d", node, i, e)
	}
}

// noMessage holds if there is no message i for any call, for this reason.
func noMessage(t *testing.T, w *World, node int, i int, want api.Errno) {
	t.Helper()
	if e := w.Deliver(node, i); e != want {
		t.Errorf("P15: Deliver(%d, %d) = %d, want %d", node, i, e, want)
	}
	if e := w.Lose(node, i); e != want {
		t.Errorf("P14: Lose(%d, %d) = %d, want %d", node, i, e, want)
	}
	if e := w.Copy(node, i); e != want {
		t.Errorf("P14: Copy(%d, %d) = %d, want %d", node, i, e, want)
	}
}

func ask(t *testing.T, w *World, node int, want api.Stamp) {
	t.Helper()
	if stamp, e := w.Ask(node); stamp != want || e != api.OK {
		t.Errorf("P16: Ask(%d) = %d, %d, want %d", node, stamp, e, want)
	}
}

func noAsk(t *testing.T, w *World, node int) {
	t.Helper()
	if stamp, e := w.Ask(node); stamp != 0 || e != api.ErrNode {
		t.Errorf("P16: Ask(%d) = %d, %d, want ErrNode", node, stamp, e)
	}
}

func restart(t *testing.T, w *World, node int) {
	t.Helper()
	if e := w.Restart(node); e != api.OK {
		t.Errorf("P16: Restart(%d) = %d", node, e)
	}
}

func noRestart(t *testing.T, w *World, node int) {
	t.Helper()
	if e := w.Restart(node); e != api.ErrNode {
		t.Errorf("P16: Restart(%d) = %d, want ErrNode", node, e)
	}
}

// refuse lets a put arrive that the node does not take.
func refuse(t *testing.T, w *World, i int) {
	t.Helper()
	if took, e := w.Store(i); took || e != api.OK {
		t.Errorf("P12: Store(%d) = %v, %d, want false", i, took, e)
	}
}

// fourCommits is the world of the document's examples.
func fourCommits(t *testing.T) *World {
	t.Helper()
	w := newWorld(t, 1, 2)
	commit(t, w, 1, set(0, 1))
	commit(t, w, 2, set(1, 2))
	commit(t, w, 3, set(0, 3))
	begin(t, w, 0, 0)
	read(t, w, 0, "a", 3)
	storePut(t, w, 0)
	commit(t, w, 4, set(0, 4))
	return w
}

func TestDeliverOfTheDocument(t *testing.T) {
	w := fourCommits(t)
	open := api.Entry{Query: "a", Value: 3, From: 3, Open: true, Known: 3}
	closed := api.Entry{Query: "a", Value: 3, From: 3, Till: 4, Known: 3}
	m := []api.Message{{Number: 1, Keys: 1}, {Number: 2, Keys: 2}, {Number: 3, Keys: 1}, {Number: 4, Keys: 1}}
	flightIs(t, w, 0, m...)
	reportIs(t, w, 0, upWith(0, open))
	deliver(t, w, 0, 3)
	flightIs(t, w, 0, m[:3]...)
	for horizon := range 3 {
		reportIs(t, w, 0, api.Report{Up: true, Horizon: api.Stamp(horizon), Waiting: []uint8{4}, Entries: []api.Entry{open}})
		deliver(t, w, 0, 0)
		flightIs(t, w, 0, m[horizon+1:3]...)
	}
	reportIs(t, w, 0, upWith(4, closed))
	ask(t, w, 0, 4)
	reportIs(t, w, 0, upWith(4, closed))
}

func TestAskOfTheDocument(t *testing.T) {
	w := fourCommits(t)
	want := upWith(4, api.Entry{Query: "a", Value: 3, From: 3, Till: 4, Known: 3})
	for stamp := api.Stamp(1); stamp <= 4; stamp++ {
		ask(t, w, 0, stamp)
	}
	ask(t, w, 0, 4)
	reportIs(t, w, 0, want)
	if l, _ := w.Flight(0); len(l) != 4 {
		t.Errorf("P16: behind Ask there are the messages %v", l)
	}
	for range 4 {
		deliver(t, w, 0, 0)
		reportIs(t, w, 0, want)
	}
	flightIs(t, w, 0)
}

// A node that asks hears of what waits, too, and is told how far it came.
func TestAskHearsOfWhatWaits(t *testing.T) {
	w := newWorld(t, 2, 1)
	for stamp := api.Stamp(1); stamp <= 8; stamp++ {
		commit(t, w, stamp, set(int(stamp)%8, 1))
	}
	for _, i := range []int{4, 2, 1} { // 5, 3 and 2
		deliver(t, w, 0, i)
	}
	reportIs(t, w, 0, api.Report{Up: true, Waiting: []uint8{2, 3, 5}})
	ask(t, w, 0, 3)
	reportIs(t, w, 0, api.Report{Up: true, Horizon: 3, Waiting: []uint8{5}})
	ask(t, w, 0, 5)
	ask(t, w, 0, 6)
	reportIs(t, w, 0, upWith(6))
	reportIs(t, w, 1, upWith(0)) // the other one heard nothing
}

func TestLatePutsOfTheDocument(t *testing.T) {
	for horizon := api.Stamp(9); horizon <= 10; horizon++ {
		w := newWorld(t, 1, 3)
		for stamp := api.Stamp(1); stamp <= 3; stamp++ {
			commit(t, w, stamp, set(1, 1))
		}
		begin(t, w, 0, 0)
		read(t, w, 0, "a", 0)
		read(t, w, 0, "c", 0)
		for stamp := api.Stamp(4); stamp <= 10; stamp++ {
			key := 1
			if stamp == 6 || stamp == 8 {
				key = 0
			}
			commit(t, w, stamp, set(key, 1))
		}
		for stamp := api.Stamp(1); stamp <= horizon; stamp++ {
			ask(t, w, 0, stamp)
		}
		if horizon == 10 {
			refuse(t, w, 0)
			refuse(t, w, 0)
			reportIs(t, w, 0, upWith(10))
		} else {
			storePut(t, w, 0)
			storePut(t, w, 0)
			reportIs(t, w, 0, upWith(9, api.Entry{Query: "a", Till: 6, Known: 3}, api.Entry{Query: "c", Open: true, Known: 9}))
		}
		putsAre(t, w)
	}
}

func TestRestartOfTheDocument(t *testing.T) {
	w := fourCommits(t)
	deliver(t, w, 0, 1)
	begin(t, w, 0, 1)
	read(t, w, 1, "b", 2)
	restart(t, w, 0)
	reportIs(t, w, 0, api.Report{})
	flightIs(t, w, 0)
	putsAre(t, w, api.Entry{Query: "b", Value: 2, From: 2, Open: true, Known: 4})
	read(t, w, 1, "a", 4)
	refuse(t, w, 0)
	putsAre(t, w, api.Entry{Query: "a", Value: 4, From: 4, Open: true, Known: 4})
	noEvict(t, w, 0, 0, api.ErrArg)
	commit(t, w, 5, set(1, 5))
	flightIs(t, w, 0, api.Message{Number: 5, Keys: 2})
	copyOf(t, w, 0, 0)
	deliver(t, w, 0, 0)
	reportIs(t, w, 0, api.Report{})
	ask(t, w, 0, 5)
	reportIs(t, w, 0, upWith(5))
	flightIs(t, w, 0, api.Message{Number: 5, Keys: 2}) // to come up loses nothing
	deliver(t, w, 0, 0)
	reportIs(t, w, 0, upWith(5))
	refuse(t, w, 0) // 5 is not in the history
	begin(t, w, 0, 2)
	read(t, w, 2, "a", 4)
	storePut(t, w, 0)
	reportIs(t, w, 0, upWith(5, api.Entry{Query: "a", Value: 4, From: 4, Open: true, Known: 5}))
}

// Restart of a node that is not up loses what is on its way to it, and to none
// other.
func TestRestartTwice(t *testing.T) {
	w := newWorld(t, 3, 1)
	restart(t, w, 1)
	commit(t, w, 1, set(6, 1))
	message := api.Message{Number: 1, Keys: 64}
	for node := range 3 {
		flightIs(t, w, node, message)
	}
	restart(t, w, 1)
	flightIs(t, w, 0, message)
	flightIs(t, w, 1)
	flightIs(t, w, 2, message)
	reportIs(t, w, 0, upWith(0))
	reportIs(t, w, 1, api.Report{})
	reportIs(t, w, 2, upWith(0))
	ask(t, w, 1, 1)
	reportIs(t, w, 1, upWith(1))
}

// A node falls with the commit 41 if it has heard nothing, and stays up if it has
// heard of one.
func TestNodesThatLagFall(t *testing.T) {
	w := newWorld(t, 2, 1)
	begin(t, w, 0, 0)
	read(t, w, 0, "b", 0)
	storePut(t, w, 0)
	for stamp := api.Stamp(1); stamp <= 40; stamp++ {
		commit(t, w, stamp, set(0, 1))
	}
	deliver(t, w, 0, 2)
	b := api.Entry{Query: "b", Open: true}
	reportIs(t, w, 0, api.Report{Up: true, Waiting: []uint8{3}, Entries: []api.Entry{b}})
	deliver(t, w, 1, 0)
	commit(t, w, 41, set(2, 1))
	reportIs(t, w, 0, api.Report{})
	reportIs(t, w, 1, upWith(1))
	flightIs(t, w, 0, api.Message{Number: 41, Keys: 4})
	commit(t, w, 42, set(3, 1))
	reportIs(t, w, 1, api.Report{})
	last := api.Message{Number: 42, Keys: 8}
	flightIs(t, w, 0, api.Message{Number: 41, Keys: 4}, last) // it fell already: nothing is lost
	flightIs(t, w, 1, last)
	read(t, w, 0, "b", 0)
	ask(t, w, 0, 42)
	reportIs(t, w, 0, upWith(42))
}

// Messages grow old with each commit, also those to a node that is not up.
func TestMessagesGrowOld(t *testing.T) {
	w := newWorld(t, 1, 1)
	restart(t, w, 0)
	commit(t, w, 1, set(0, 1))
	commit(t, w, 2, set(1, 1))
	copyOf(t, w, 0, 0)
	one, two := api.Message{Number: 1, Keys: 1}, api.Message{Number: 2, Keys: 2}
	for stamp := api.Stamp(3); stamp <= 100; stamp++ {
		commit(t, w, stamp)
		flightIs(t, w, 0, one, two, one, api.Message{Number: uint8(stamp)})
		lose(t, w, 0, 3)
	}
	commit(t, w, 101)
	flightIs(t, w, 0, two, api.Message{Number: 101})
	commit(t, w, 102)
	flightIs(t, w, 0, api.Message{Number: 101}, api.Message{Number: 102})
}

// At most twelve are on their way; when old ones are lost with a commit, there is
// room for its own message.
func TestFullLinks(t *testing.T) {
	w := newWorld(t, 2, 1)
	var want []api.Message
	for stamp := api.Stamp(1); stamp <= 30; stamp++ {
		commit(t, w, stamp, set(int(stamp)%8, 1))
		if stamp <= api.MaxFlight {
			want = append(want, api.Message{Number: uint8(stamp), Keys: 1 << (stamp % 8)})
		}
		flightIs(t, w, 0, want...)
	}
	for i := range api.MaxFlight {
		if e := w.Copy(0, i); e != api.ErrFull {
			t.Errorf("P14: Copy(0, %d) among twelve = %d, want ErrFull", i, e)
		}
	}
	noMessage(t, w, 0, 12, api.ErrArg)
	lose(t, w, 0, 5)
	copyOf(t, w, 0, 0)
	want = append(append(append([]api.Message{}, want[:5]...), want[6:]...), want[0])
	flightIs(t, w, 0, want...)
	for stamp := api.Stamp(31); stamp <= 101; stamp++ {
		ask(t, w, 0, stamp-30)
		commit(t, w, stamp)
	}
	flightIs(t, w, 0, append(append([]api.Message{}, want[1:11]...), api.Message{Number: 101})...)
}

// A copy is heard of once.
func TestCopiesComeToNothing(t *testing.T) {
	w := newWorld(t, 1, 1)
	begin(t, w, 0, 0)
	read(t, w, 0, "a", 0)
	storePut(t, w, 0)
	for stamp := api.Stamp(1); stamp <= 3; stamp++ {
		commit(t, w, stamp, set(int(3-stamp), 1)) // c, b, a
	}
	copyOf(t, w, 0, 2)
	copyOf(t, w, 0, 2)
	copyOf(t, w, 0, 0)
	deliver(t, w, 0, 2)
	deliver(t, w, 0, 2)
	a := api.Entry{Query: "a", Open: true}
	reportIs(t, w, 0, api.Report{Up: true, Waiting: []uint8{3}, Entries: []api.Entry{a}})
	for range 2 {
		deliver(t, w, 0, 0)
	}
	reportIs(t, w, 0, upWith(3, api.Entry{Query: "a", Till: 3}))
	deliver(t, w, 0, 0)
	deliver(t, w, 0, 0)
	noMessage(t, w, 0, 0, api.ErrArg)
	reportIs(t, w, 0, upWith(3, api.Entry{Query: "a", Till: 3}))
}

// Numbers begin anew behind 255; what waits, and what a message is of, hangs on
// the stamps.
func TestNumbersThatBeginAnew(t *testing.T) {
	w := newWorld(t, 1, 1)
	for stamp := api.Stamp(1); stamp <= 253; stamp++ {
		commit(t, w, stamp)
		lose(t, w, 0, 0)
		ask(t, w, 0, stamp)
	}
	var want []api.Message
	for stamp := api.Stamp(254); stamp <= 259; stamp++ {
		commit(t, w, stamp, set(int(stamp-254), 1))
		want = append(want, api.Message{Number: uint8(stamp % 256), Keys: 1 << (stamp - 254)})
	}
	flightIs(t, w, 0, want...)
	for _, i := range []int{5, 4, 3, 2, 1} { // 259 is five ahead
		deliver(t, w, 0, i)
	}
	reportIs(t, w, 0, api.Report{Up: true, Horizon: 253, Waiting: []uint8{255, 0, 1, 2}})
	deliver(t, w, 0, 0)
	reportIs(t, w, 0, upWith(258))
}

// With what a node has heard of, its entries answer readers of later stamps.
func TestHearingMakesEntriesCoverMore(t *testing.T) {
	w := newWorld(t, 1, 2)
	begin(t, w, 0, 0)
	read(t, w, 0, "a", 0)
	storePut(t, w, 0)
	for stamp := api.Stamp(1); stamp <= 3; stamp++ {
		commit(t, w, stamp, set(1, int32(stamp)))
	}
	commit(t, w, 4, set(0, 4))
	tick(t, w)
	for stamp := api.Stamp(1); stamp <= 3; stamp++ {
		deliver(t, w, 0, 0)
	}
	begin(t, w, 1, 1)
	readHit(t, w, 1, "a", 0)
	read(t, w, 1, "b", 3)
	end(t, w, 1, 3, 3)
	begin(t, w, 0, 2)
	read(t, w, 2, "a", 4) // of stamp 4 alone
	deliver(t, w, 0, 0)
	begin(t, w, 1, 3)
	readHit(t, w, 3, "a", 0)
	end(t, w, 3, 0, 3)
}

func TestLinkErrors(t *testing.T) {
	w := newWorld(t, 2, 1)
	commit(t, w, 1, set(0, 1))
	commit(t, w, 2, set(1, 1))
	lose(t, w, 0, 1)
	lose(t, w, 1, 0)
	for _, node := range oddNumbers {
		if node == 0 || node == 1 {
			continue
		}
		noFlight(t, w, node)
		noAsk(t, w, node)
		noRestart(t, w, node)
		for _, i := range oddNumbers {
			noMessage(t, w, node, i, api.ErrNode)
		}
	}
	for _, i := range oddNumbers {
		if i != 0 {
			noMessage(t, w, 0, i, api.ErrArg)
			noMessage(t, w, 1, i, api.ErrArg)
		}
	}
	flightIs(t, w, 0, api.Message{Number: 1, Keys: 1})
	flightIs(t, w, 1, api.Message{Number: 2, Keys: 2})
	reportIs(t, w, 0, upWith(0))
	reportIs(t, w, 1, upWith(0))
}

// A commit that is refused sends nothing, and lets no node fall and no message
// grow old.
func TestRefusedCommitsSendNothing(t *testing.T) {
	w := newWorld(t, 1, 1)
	for stamp := api.Stamp(1); stamp <= 40; stamp++ {
		commit(t, w, stamp)
	}
	for range 10 {
		lose(t, w, 0, 0)
	}
	w.Commit(make([]api.Write, 9))
	w.Commit([]api.Write{set(8, 1)})
	reportIs(t, w, 0, upWith(0))
	flightIs(t, w, 0, api.Message{Number: 11}, api.Message{Number: 12})
	commit(t, w, 41)
	for stamp := api.Stamp(42); stamp <= 660; stamp++ {
		commit(t, w, stamp)
	}
	ask(t, w, 0, 660)
	for stamp := api.Stamp(661); stamp <= api.MaxStamp; stamp++ {
		commit(t, w, stamp)
	}
	before, _ := w.Flight(0)
	if stamp, e := w.Commit(nil); stamp != 0 || e != api.ErrFull {
		t.Errorf("P6: Commit = %d, %d, want ErrFull", stamp, e)
	}
	flightIs(t, w, 0, before...)
	reportIs(t, w, 0, upWith(660))
}

func TestFlightListsAreTheCallers(t *testing.T) {
	w := newWorld(t, 2, 1)
	for stamp := api.Stamp(1); stamp <= 3; stamp++ {
		commit(t, w, stamp, set(int(stamp), 1))
	}
	want := []api.Message{{Number: 1, Keys: 2}, {Number: 2, Keys: 4}, {Number: 3, Keys: 8}}
	mine, _ := w.Flight(0)
	kept, _ := w.Flight(0)
	whole := mine[:cap(mine)]
	for i := range whole {
		whole[i] = api.Message{Number: 77, Keys: 77}
	}
	flightIs(t, w, 0, want...)
	flightIs(t, w, 1, want...)
	commit(t, w, 4, set(4, 1))
	flightIs(t, w, 0, append(want, api.Message{Number: 4, Keys: 16})...)
	lose(t, w, 0, 0)
	deliver(t, w, 1, 0)
	if !reflect.DeepEqual(kept, want) || mine[0].Number != 77 {
		t.Errorf("P2: lists that were told already changed: %v, %v", kept, mine)
	}
}

// The links and nodes of another world hear nothing.
func TestLinksOfOtherWorlds(t *testing.T) {
	w := newWorld(t, 1, 1)
	other := newWorld(t, 1, 1)
	commit(t, w, 1)
	flightIs(t, other, 0)
	commit(t, other, 1, set(0, 1))
	deliver(t, w, 0, 0)
	reportIs(t, other, 0, upWith(0))
	restart(t, w, 0)
	reportIs(t, other, 0, upWith(0))
	flightIs(t, other, 0, api.Message{Number: 1, Keys: 1})
}
