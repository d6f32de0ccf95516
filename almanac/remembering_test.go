package almanac

import (
	"reflect"
	"testing"

	"almanac/api"
)

func readHit(t *testing.T, w *World, reader int, query string, want int32) {
	t.Helper()
	if value, hit, e := w.Read(reader, query); value != want || !hit || e != api.OK {
		t.Errorf("P9: Read(%d, %q) = %d, %v, %d, want %d, true", reader, query, value, hit, e, want)
	}
}

func storePut(t *testing.T, w *World, i int) {
	t.Helper()
	if took, e := w.Store(i); !took || e != api.OK {
		t.Errorf("P12: Store(%d) = %v, %d, want true", i, took, e)
	}
}

func noStore(t *testing.T, w *World, i int) {
	t.Helper()
	if took, e := w.Store(i); took || e != api.ErrArg {
		t.Errorf("P12: Store(%d) = %v, %d, want ErrArg", i, took, e)
	}
}

func evict(t *testing.T, w *World, node int, i int) {
	t.Helper()
	if e := w.Evict(node, i); e != api.OK {
		t.Errorf("P13: Evict(%d, %d) = %d", node, i, e)
	}
}

func noEvict(t *testing.T, w *World, node int, i int, want api.Errno) {
	t.Helper()
	if e := w.Evict(node, i); e != want {
		t.Errorf("P13: Evict(%d, %d) = %d, want the error %d", node, i, e, want)
	}
}

func noLook(t *testing.T, w *World, node int) {
	t.Helper()
	if report, e := w.Look(node); !reflect.DeepEqual(report, api.Report{}) || e != api.ErrNode {
		t.Errorf("P13: Look(%d) = %+v, %d, want ErrNode", node, report, e)
	}
}

// nodeIs is for nodes that are up and have heard nothing.
func nodeIs(t *testing.T, w *World, node int, want ...api.Entry) {
	t.Helper()
	report, e := w.Look(node)
	if !report.Up || report.Horizon != 0 || len(report.Waiting) != 0 || e != api.OK {
		t.Errorf("P13: Look(%d) = %+v, %d", node, report, e)
	}
	if l := report.Entries; len(l) != len(want) || len(l) > 0 && !reflect.DeepEqual(l, want) {
		t.Errorf("P12, P13: node %d has\n%+v, want\n%+v", node, l, want)
	}
}

func TestHitsOfTheDocument(t *testing.T) {
	w := newWorld(t, 1, 2)
	commit(t, w, 1, set(0, 1))
	commit(t, w, 2, set(1, 2))
	commit(t, w, 3, set(0, 3))
	begin(t, w, 0, 0)
	begin(t, w, 0, 1)
	read(t, w, 0, "a", 3)
	storePut(t, w, 0)
	putsAre(t, w)
	a := api.Entry{Query: "a", Value: 3, From: 3, Open: true, Known: 3}
	nodeIs(t, w, 0, a)
	readHit(t, w, 1, "a", 3)
	putsAre(t, w) // a hit is no put
	read(t, w, 1, "b", 2)
	putsAre(t, w, api.Entry{Query: "b", Value: 2, From: 2, Open: true, Known: 3})
	end(t, w, 0, 3, 3)
	end(t, w, 1, 3, 3)
	commit(t, w, 4, set(0, 4))
	begin(t, w, 0, 2)
	readHit(t, w, 2, "a", 3)
	end(t, w, 2, 3, 3)
	nodeIs(t, w, 0, a)
}

// An entry that covers only stamps that are too old for the reader does not
// answer; the next put does, and both lie there.
func TestEntriesThatAreTooOld(t *testing.T) {
	w := newWorld(t, 3, 6)
	begin(t, w, 0, 0)
	read(t, w, 0, "a", 0)
	storePut(t, w, 0)
	commit(t, w, 1, set(0, 7))
	tick(t, w)
	begin(t, w, 0, 1)
	read(t, w, 1, "a", 7)
	storePut(t, w, 0)
	nodeIs(t, w, 1, api.Entry{Query: "a", Open: true}, api.Entry{Query: "a", Value: 7, From: 1, Open: true, Known: 1})
	begin(t, w, 1, 2)
	readHit(t, w, 2, "a", 7) // of both the one with the greatest From
	end(t, w, 2, 1, 1)
	readHit(t, w, 0, "a", 0)
	end(t, w, 0, 0, 0)
}

// With a hit the span loses stamps at its end, and the store then answers for the
// last one that is left.
func TestHitsMakeTheSpanEndEarlier(t *testing.T) {
	w := newWorld(t, 2, 2)
	commit(t, w, 1, set(0, 10), set(1, 1))
	begin(t, w, 0, 0)
	read(t, w, 0, "a", 10)
	storePut(t, w, 0)
	commit(t, w, 2, set(1, 2))
	commit(t, w, 3, set(1, 3))
	begin(t, w, 0, 1)
	begin(t, w, 0, 2)
	readHit(t, w, 1, "a", 10)
	read(t, w, 1, "b", 1)
	read(t, w, 2, "b", 3)
	read(t, w, 2, "a", 10) // the entry is not known to be right at 3
	putsAre(t, w,
		api.Entry{Query: "b", Value: 1, From: 1, Till: 2, Known: 3},
		api.Entry{Query: "b", Value: 3, From: 3, Open: true, Known: 3},
		api.Entry{Query: "a", Value: 10, From: 1, Open: true, Known: 3})
	end(t, w, 1, 1, 1)
	end(t, w, 2, 3, 3)
}

func TestQueriesLieAtTheirNodes(t *testing.T) {
	for nodes := 1; nodes <= api.MaxNodes; nodes++ {
		w := newWorld(t, nodes, api.MaxRoom)
		begin(t, w, 0, 0)
		want := make([][]api.Entry, nodes)
		for _, c := range []struct {
			query      string
			two, three int
		}{{"a", 1, 1}, {"a+b", 0, 1}, {"a×b", 1, 1}, {"b", 0, 2}, {"a÷b", 1, 0}, {"b+a", 0, 1}} {
			node := []int{0, c.two, c.three}[nodes-1]
			want[node] = append(want[node], api.Entry{Query: c.query, Open: true})
			read(t, w, 0, c.query, 0)
			storePut(t, w, 0)
			readHit(t, w, 0, c.query, 0)
		}
		for node := range nodes {
			nodeIs(t, w, node, want[node]...)
		}
		noLook(t, w, nodes)
	}
}

// Each node has room of its own, and as much as New was told.
func TestRoomOfEachNode(t *testing.T) {
	for room := 1; room <= api.MaxRoom; room++ {
		w := newWorld(t, 2, room)
		begin(t, w, 0, 0)
		want := make([][]api.Entry, 2)
		for i := range 8 {
			for node, queries := range [][]string{
				{"b", "d", "f", "h", "a+b", "b+c", "c+d", "d+e"},
				{"a", "c", "e", "g", "a+a", "b+b", "c+c", "d+d"},
			} {
				read(t, w, 0, queries[i], 0)
				storePut(t, w, 0)
				want[node] = append(want[node], api.Entry{Query: queries[i], Open: true})
			}
		}
		nodeIs(t, w, 0, want[0][8-room:]...)
		nodeIs(t, w, 1, want[1][8-room:]...)
	}
}

// A hit uses the entry that answers, and no other of the same query.
func TestHitUsesWhatAnswers(t *testing.T) {
	w := newWorld(t, 1, 3)
	begin(t, w, 0, 0)
	read(t, w, 0, "a", 0)
	storePut(t, w, 0)
	commit(t, w, 1, set(0, 1))
	tick(t, w)
	begin(t, w, 0, 1)
	read(t, w, 1, "a", 1)
	read(t, w, 1, "b", 0)
	read(t, w, 1, "c", 0)
	storePut(t, w, 0)
	storePut(t, w, 0)
	begin(t, w, 1, 2)
	readHit(t, w, 2, "a", 1)
	storePut(t, w, 0) // c: the old a goes
	begin(t, w, 1, 3)
	readHit(t, w, 3, "a", 1)
	read(t, w, 3, "d", 0)
	storePut(t, w, 0) // d: b goes
	nodeIs(t, w, 0,
		api.Entry{Query: "a", Value: 1, From: 1, Open: true, Known: 1},
		api.Entry{Query: "c", Open: true, Known: 1},
		api.Entry{Query: "d", Open: true, Known: 1})
}

func TestStoreTakesThePutAway(t *testing.T) {
	w := newWorld(t, 2, 2)
	noStore(t, w, 0)
	begin(t, w, 0, 0)
	for _, query := range []string{"a", "b", "c", "a"} {
		read(t, w, 0, query, 0)
	}
	for _, i := range []int{-1, 4, 5, 256, 1 << 32, -1 << 63, 1<<63 - 1} {
		noStore(t, w, i)
	}
	storePut(t, w, 2)
	putsAre(t, w, api.Entry{Query: "a", Open: true}, api.Entry{Query: "b", Open: true}, api.Entry{Query: "a", Open: true})
	storePut(t, w, 2)
	storePut(t, w, 0) // is there already: it is taken all the same
	putsAre(t, w, api.Entry{Query: "b", Open: true})
	noStore(t, w, 1)
	storePut(t, w, 0)
	noStore(t, w, 0)
	nodeIs(t, w, 0, api.Entry{Query: "b", Open: true})
	nodeIs(t, w, 1, api.Entry{Query: "c", Open: true}, api.Entry{Query: "a", Open: true})
}

// A put of what is there tells the entry what it knows.
func TestPutsOfWhatIsThere(t *testing.T) {
	w := newWorld(t, 1, 2)
	begin(t, w, 0, 0)
	read(t, w, 0, "a", 0)
	commit(t, w, 1, set(1, 1))
	read(t, w, 0, "a", 0)
	commit(t, w, 2, set(0, 1))
	read(t, w, 0, "a", 0)
	storePut(t, w, 0)
	nodeIs(t, w, 0, api.Entry{Query: "a", Open: true})
	storePut(t, w, 0)
	nodeIs(t, w, 0, api.Entry{Query: "a", Open: true, Known: 1})
	storePut(t, w, 0)
	nodeIs(t, w, 0, api.Entry{Query: "a", Till: 2, Known: 2})
	begin(t, w, 0, 1)
	readHit(t, w, 1, "a", 0)
	end(t, w, 1, 0, 1)
}

func TestEvictErrors(t *testing.T) {
	w := newWorld(t, 2, 2)
	begin(t, w, 0, 0)
	read(t, w, 0, "b", 0)
	read(t, w, 0, "d", 0)
	storePut(t, w, 0)
	storePut(t, w, 0)
	for _, node := range oddNumbers {
		if node == 0 || node == 1 {
			continue
		}
		noLook(t, w, node)
		for _, i := range oddNumbers {
			noEvict(t, w, node, i, api.ErrNode)
		}
	}
	for _, i := range oddNumbers {
		noEvict(t, w, 1, i, api.ErrArg)
		if i != 0 && i != 1 {
			noEvict(t, w, 0, i, api.ErrArg)
		}
	}
	nodeIs(t, w, 0, api.Entry{Query: "b", Open: true}, api.Entry{Query: "d", Open: true})
	evict(t, w, 0, 0)
	nodeIs(t, w, 0, api.Entry{Query: "d", Open: true})
	read(t, w, 0, "b", 0)
	readHit(t, w, 0, "d", 0)
	evict(t, w, 0, 0)
	noEvict(t, w, 0, 0, api.ErrArg)
	read(t, w, 0, "d", 0)
}

func TestLookListsAreTheCallers(t *testing.T) {
	w := newWorld(t, 1, 3)
	begin(t, w, 0, 0)
	read(t, w, 0, "a", 0)
	read(t, w, 0, "b", 0)
	read(t, w, 0, "c", 0)
	storePut(t, w, 0)
	storePut(t, w, 0)
	a, b, c := api.Entry{Query: "a", Open: true}, api.Entry{Query: "b", Open: true}, api.Entry{Query: "c", Open: true}
	mine, _ := w.Look(0)
	kept, _ := w.Look(0)
	whole := mine.Entries[:cap(mine.Entries)]
	for i := range whole {
		whole[i] = api.Entry{Query: "mine"}
	}
	waiting := mine.Waiting[:cap(mine.Waiting)]
	for i := range waiting {
		waiting[i] = 77
	}
	storePut(t, w, 0)
	nodeIs(t, w, 0, a, b, c)
	evict(t, w, 0, 0)
	if !reflect.DeepEqual(kept.Entries, []api.Entry{a, b}) || mine.Entries[0].Query != "mine" {
		t.Errorf("P2: lists that were told already changed: %v, %v", kept, mine)
	}
}

// What the node of one world remembers, that of another does not.
func TestNodesOfOtherWorlds(t *testing.T) {
	w := newWorld(t, 2, 2)
	other := newWorld(t, 2, 2)
	for _, x := range []*World{w, other} {
		begin(t, x, 0, 0)
		read(t, x, 0, "a", 0)
	}
	storePut(t, w, 0)
	nodeIs(t, other, 1)
	read(t, other, 0, "a", 0)
	evict(t, w, 1, 0)
	storePut(t, other, 0)
	nodeIs(t, w, 1)
	nodeIs(t, other, 1, api.Entry{Query: "a", Open: true})
}
