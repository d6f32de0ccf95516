package memory

import (
	"reflect"
	"testing"

	"almanac/api"
)

func open(query string, from api.Stamp, known api.Stamp) api.Entry {
	return api.Entry{Query: query, Value: int32(from) + 100, From: from, Open: true, Known: known}
}

func closed(query string, from api.Stamp, till api.Stamp, known api.Stamp) api.Entry {
	return api.Entry{Query: query, Value: int32(from) + 100, From: from, Till: till, Known: known}
}

// heard is a node with this horizon, whose history has the commits that wrote
// these keys, the last of them at the horizon.
func heard(horizon api.Stamp, keys ...uint8) *Node {
	n := New(api.MaxRoom)
	n.horizon = horizon
	for i, k := range keys {
		stamp := horizon - api.Stamp(len(keys)-1-i)
		n.history = append(n.history, commit{stamp: stamp, keys: k})
	}
	return &n
}

func takes(t *testing.T, n *Node, l ...api.Entry) {
	t.Helper()
	for _, put := range l {
		if !n.Store(put) {
			t.Errorf("P12: %+v is not taken", put)
		}
	}
}

func takesNot(t *testing.T, n *Node, put api.Entry) {
	t.Helper()
	before := n.Look()
	if n.Store(put) {
		t.Errorf("P12: %+v is taken", put)
	}
	if after := n.Look(); !reflect.DeepEqual(after, before) {
		t.Errorf("P12: %+v is not taken, but the node becomes %+v", put, after)
	}
}

func has(t *testing.T, n *Node, want ...api.Entry) {
	t.Helper()
	report := n.Look()
	if !report.Up || report.Horizon != n.horizon || len(report.Waiting) != 0 {
		t.Errorf("P13: the node is %+v", report)
	}
	if l := report.Entries; len(l) != len(want) || len(l) > 0 && !reflect.DeepEqual(l, want) {
		t.Errorf("P12, P13: the entries are\n%+v, want\n%+v", l, want)
	}
}

func answers(t *testing.T, n *Node, query string, span api.Span, value int32, want api.Span) {
	t.Helper()
	if v, cover, hit := n.Answer(query, span); v != value || cover != want || !hit {
		t.Errorf("P9: Answer(%q, %v) = %d, %v, %v, want %d, %v", query, span, v, cover, hit, value, want)
	}
}

func answersNot(t *testing.T, n *Node, query string, span api.Span) {
	t.Helper()
	if v, cover, hit := n.Answer(query, span); v != 0 || cover != (api.Span{}) || hit {
		t.Errorf("P9: Answer(%q, %v) = %d, %v, %v, want none", query, span, v, cover, hit)
	}
}

func span(from api.Stamp, to api.Stamp) api.Span {
	return api.Span{From: from, To: to}
}

func TestNewNodeIsUpAndEmpty(t *testing.T) {
	n := New(1)
	has(t, &n)
	answersNot(t, &n, "a", span(0, 9))
}

func TestNodeThatIsNotUp(t *testing.T) {
	n := Node{room: 3}
	for _, put := range []api.Entry{open("a", 1, 2), closed("a", 1, 2, 2)} {
		takesNot(t, &n, put)
	}
	answersNot(t, &n, "a", span(0, 9))
	if report := n.Look(); report.Up || report.Horizon != 0 || len(report.Entries) != 0 {
		t.Errorf("P13: a node that is not up is %+v", report)
	}
	if e := n.Evict(0); e != api.ErrArg {
		t.Errorf("P13: Evict(0) of a node that is not up = %d", e)
	}
}

// The edges of what an entry covers, of each kind.
func TestCovers(t *testing.T) {
	for _, c := range []struct {
		horizon api.Stamp
		entry   api.Entry
		last    api.Stamp
	}{
		{0, open("a", 4, 4), 4},
		{0, open("a", 4, 7), 7},
		{7, open("a", 4, 7), 7},
		{9, open("a", 4, 7), 9},
		{0, closed("a", 4, 5, 9), 4},
		{20, closed("a", 4, 8, 9), 7},
	} {
		n := New(1)
		takes(t, &n, c.entry)
		n.horizon = c.horizon
		last := c.last
		whole := span(4, last)
		for _, s := range []api.Span{span(0, 4), span(0, 30), span(4, 4), span(last, last), span(last, 30), whole} {
			answers(t, &n, "a", s, 104, whole)
		}
		for _, s := range []api.Span{span(0, 3), span(3, 3), span(last+1, last+1), span(last+1, 30)} {
			answersNot(t, &n, "a", s)
		}
	}
}

func TestAnswersTheVeryQuery(t *testing.T) {
	n := New(api.MaxRoom)
	takes(t, &n, open("a+b", 1, 5))
	answers(t, &n, "a+b", span(2, 3), 101, span(1, 5))
	for _, query := range []string{"b+a", "a", "b", "a+", "a+b+b", "a-b", ""} {
		answersNot(t, &n, query, span(2, 3))
	}
}

func TestTheGreatestFromAnswers(t *testing.T) {
	for _, order := range [][]int{{0, 1, 2}, {2, 1, 0}, {1, 2, 0}} {
		n := New(api.MaxRoom)
		l := []api.Entry{closed("a", 1, 3, 9), closed("a", 3, 6, 9), open("a", 6, 9)}
		for _, i := range order {
			takes(t, &n, l[i], open("b", 8, 9))
		}
		answers(t, &n, "a", span(1, 9), 106, span(6, 9))
		answers(t, &n, "a", span(2, 5), 103, span(3, 5))
		answers(t, &n, "a", span(0, 2), 101, span(1, 2))
		answersNot(t, &n, "a", span(10, 12))
		answersNot(t, &n, "a", span(0, 0))
	}
}

// A put with Known 3 and the key a, as the document has it, and beyond it.
func TestLatePuts(t *testing.T) {
	const a, b, none = 1, 2, 0
	put := open("a", 2, 3)
	for _, c := range []struct {
		n    *Node
		want api.Entry
	}{
		{heard(9, b, b, a, b, a, b), closed("a", 2, 6, 3)},
		{heard(9, a, b, a, b, a, b), closed("a", 2, 4, 3)},
		{heard(9, b, b, b, b, b, a|b), closed("a", 2, 9, 3)},
		{heard(9, none, b, ^uint8(a), b, b, b), open("a", 2, 9)},
		{heard(4, a), closed("a", 2, 4, 3)},
		{heard(4, b), open("a", 2, 4)},
		{heard(4, a, a, b), open("a", 2, 4)}, // 2 and 3 are not above Known
		{heard(3, a, a), put},
		{heard(3), put},
		{heard(2, a), put},
		{heard(0), put},
	} {
		takes(t, c.n, put)
		has(t, c.n, c.want)
	}
}

func TestLatePutsThatTheNodeCannotJudge(t *testing.T) {
	const a, b = 1, 2
	put := open("a", 2, 3)
	for _, n := range []*Node{
		heard(10, b, b, b, b, b, b),
		heard(10, a, a, a, a, a, a), // that it is closed is not enough: by which one first?
		heard(9, b, b, b, b, b),
		heard(4),
		heard(700),
	} {
		takesNot(t, n, put)
		has(t, n)
	}
}

// Of what is not Open, nothing is looked up.
func TestLatePutsThatAreNotOpen(t *testing.T) {
	for _, n := range []*Node{heard(10), heard(10, 1, 1, 1, 1, 1, 1), heard(4, 1)} {
		put := closed("a", 2, 3, 3)
		takes(t, n, put)
		has(t, n, put)
	}
}

func TestLatePutsOfSeveralKeys(t *testing.T) {
	n := heard(6, 1<<1, 1<<7, 1<<2)
	takes(t, n, open("a×c-h", 1, 3), open("a+d", 2, 3), open("b", 3, 3))
	has(t, n, closed("a×c-h", 1, 5, 3), open("a+d", 2, 6), closed("b", 3, 4, 3))
}

// A late put is what it has become when it is merged, and is not merged if it is
// not taken.
func TestLatePutsThatAreThere(t *testing.T) {
	n := heard(0)
	takes(t, n, open("a", 2, 3))
	n.horizon = 5
	n.history = []commit{{stamp: 4, keys: 2}, {stamp: 5, keys: 4}}
	takes(t, n, open("a", 2, 3))
	has(t, n, open("a", 2, 5))
	n.horizon = 7
	n.history = []commit{{stamp: 6, keys: 1}, {stamp: 7, keys: 1}}
	takesNot(t, n, open("a", 2, 4))
	takes(t, n, open("a", 2, 5))
	has(t, n, closed("a", 2, 6, 5))
}

func TestMerge(t *testing.T) {
	for _, c := range []struct {
		entry, put, want api.Entry
	}{
		{open("a", 1, 3), open("a", 1, 5), open("a", 1, 5)},
		{open("a", 1, 5), open("a", 1, 3), open("a", 1, 5)},
		{open("a", 1, 5), open("a", 1, 5), open("a", 1, 5)},
		{open("a", 1, 3), closed("a", 1, 4, 5), closed("a", 1, 4, 5)},
		{open("a", 1, 6), closed("a", 1, 7, 3), closed("a", 1, 7, 6)},
		{closed("a", 1, 4, 5), open("a", 1, 3), closed("a", 1, 4, 5)},
		{closed("a", 1, 4, 3), open("a", 1, 6), closed("a", 1, 4, 6)},
		{closed("a", 1, 4, 5), closed("a", 1, 4, 8), closed("a", 1, 4, 8)},
		{closed("a", 1, 4, 8), closed("a", 1, 4, 5), closed("a", 1, 4, 8)},
		{closed("a", 1, 4, 8), closed("a", 1, 9, 5), closed("a", 1, 4, 8)},
	} {
		n := New(3)
		takes(t, &n, open("b", 1, 9), c.entry, open("a", 2, 9), c.put)
		has(t, &n, open("b", 1, 9), c.want, open("a", 2, 9))
	}
}

// What is there already needs no room, even where there is none.
func TestMergeWithoutRoom(t *testing.T) {
	n := New(2)
	takes(t, &n, open("a", 1, 3), closed("a", 0, 1, 3), open("a", 1, 4), closed("a", 0, 1, 6))
	has(t, &n, open("a", 1, 4), closed("a", 0, 1, 6))
}

func TestTheLeastTillGoesFirst(t *testing.T) {
	n := New(4)
	takes(t, &n, open("a", 1, 3), closed("b", 0, 7, 9), closed("c", 1, 5, 9), closed("d", 0, 5, 9))
	takes(t, &n, closed("e", 0, 1, 9)) // c: of two with the same Till it was laid first
	has(t, &n, open("a", 1, 3), closed("b", 0, 7, 9), closed("d", 0, 5, 9), closed("e", 0, 1, 9))
	takes(t, &n, open("f", 0, 9), open("g", 0, 9), open("h", 0, 9)) // e, d, b
	has(t, &n, open("a", 1, 3), open("f", 0, 9), open("g", 0, 9), open("h", 0, 9))
}

// How lately an entry was used saves only those that are Open.
func TestUseDoesNotSaveWhatIsNotOpen(t *testing.T) {
	n := New(3)
	takes(t, &n, open("a", 1, 3), closed("b", 1, 6, 9), closed("c", 1, 5, 9))
	answers(t, &n, "c", span(1, 9), 101, span(1, 4))
	takes(t, &n, open("d", 1, 3))
	has(t, &n, open("a", 1, 3), closed("b", 1, 6, 9), open("d", 1, 3))
}

// An entry that was Open when it was laid counts as what it has become.
func TestWhatBecameNotOpenGoesFirst(t *testing.T) {
	n := New(3)
	takes(t, &n, open("a", 1, 3), open("b", 1, 3), open("c", 1, 3), closed("c", 1, 8, 9), open("d", 1, 3))
	has(t, &n, open("a", 1, 3), open("b", 1, 3), open("d", 1, 3))
}

func TestWhatWasUsedLongestAgoGoes(t *testing.T) {
	a, b, c := open("a", 1, 3), open("b", 1, 3), open("c", 1, 3)
	d := open("d", 1, 3)
	for _, x := range []struct {
		uses  string // small letters answer, great ones are put once more
		stays []api.Entry
	}{
		{"", []api.Entry{b, c, d}},
		{"a", []api.Entry{a, c, d}},
		{"A", []api.Entry{a, c, d}},
		{"ab", []api.Entry{a, b, d}},
		{"BA", []api.Entry{a, b, d}},
		{"bA", []api.Entry{a, b, d}},
		{"c", []api.Entry{b, c, d}},
		{"cba", []api.Entry{a, b, d}},
		{"CaB", []api.Entry{a, b, d}},
		{"acb", []api.Entry{b, c, d}},
	} {
		n := New(3)
		takes(t, &n, a, b, c)
		for _, u := range x.uses {
			if u < 'a' {
				takes(t, &n, open(string(u-'A'+'a'), 1, 3))
			} else {
				answers(t, &n, string(u), span(2, 2), 101, span(1, 3))
			}
		}
		takes(t, &n, d)
		has(t, &n, x.stays...)
	}
}

// Neither a look, nor a miss, nor a put that is not taken uses an entry.
func TestWhatIsNoUse(t *testing.T) {
	n := heard(5)
	n.room = 2
	takes(t, n, open("a", 1, 5), open("b", 1, 5))
	n.Look()
	answersNot(t, n, "a", span(6, 9))
	takesNot(t, n, open("a", 1, 4))
	takes(t, n, open("c", 1, 5))
	has(t, n, open("b", 1, 5), open("c", 1, 5))
}

func TestRoomOfOne(t *testing.T) {
	n := New(1)
	for _, put := range []api.Entry{open("a", 1, 3), closed("a", 0, 1, 3), closed("b", 0, 1, 3), open("a", 1, 3)} {
		takes(t, &n, put)
		has(t, &n, put)
	}
}

func TestEvict(t *testing.T) {
	a, b, c := open("a", 1, 3), closed("b", 1, 2, 3), open("c", 1, 3)
	for i, rest := range [][]api.Entry{{b, c}, {a, c}, {a, b}} {
		n := New(3)
		takes(t, &n, a, b, c)
		for _, wrong := range []int{-1, 3, 4, 1 << 32, -1 << 63, 1<<63 - 1} {
			if e := n.Evict(wrong); e != api.ErrArg {
				t.Errorf("P13: Evict(%d) = %d, want ErrArg", wrong, e)
			}
		}
		has(t, &n, a, b, c)
		if e := n.Evict(i); e != api.OK {
			t.Errorf("P13: Evict(%d) = %d", i, e)
		}
		has(t, &n, rest...)
		takes(t, &n, open("d", 1, 3)) // there is room again
		has(t, &n, append(rest, open("d", 1, 3))...)
	}
}

func TestEvictTillNoneIsLeft(t *testing.T) {
	n := New(2)
	takes(t, &n, open("a", 1, 3), open("b", 1, 3))
	for range 2 {
		if e := n.Evict(0); e != api.OK {
			t.Errorf("P13: Evict(0) = %d", e)
		}
	}
	if e := n.Evict(0); e != api.ErrArg {
		t.Errorf("P13: Evict(0) of no entries = %d", e)
	}
	has(t, &n)
	answersNot(t, &n, "a", span(0, 9))
}

func TestLooksAreTheCallers(t *testing.T) {
	n := New(3)
	takes(t, &n, open("a", 1, 3), open("b", 1, 3), open("c", 1, 3))
	mine := n.Look().Entries
	kept := n.Look().Entries
	for i := range mine[:cap(mine)] {
		mine[:cap(mine)][i] = api.Entry{Query: "mine"}
	}
	takes(t, &n, closed("b", 1, 9, 9), open("d", 1, 3))
	has(t, &n, open("a", 1, 3), open("c", 1, 3), open("d", 1, 3))
	if want := []api.Entry{open("a", 1, 3), open("b", 1, 3), open("c", 1, 3)}; !reflect.DeepEqual(kept, want) {
		t.Errorf("P2: a look changed when it was told already: %v", kept)
	}
}
