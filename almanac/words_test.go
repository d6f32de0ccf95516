package almanac

import (
	"math/rand"
	"slices"
	"strings"
	"testing"

	"almanac/api"
)

// byWords is a world by the words of the document, with nothing worked out ahead.
type byWords struct {
	room    int
	commits [][]api.Write // of each stamp; stamp 0 wrote nothing
	ticks   []int         // of each stamp
	clock   int
	readers []byWordsReader // all that have ever begun
	puts    []api.Entry
	nodes   []byWordsNode
}

type byWordsReader struct {
	ended bool
	span  api.Span
	read  []byWordsAnswer
}

type byWordsAnswer struct {
	query string
	value int32
}

// byWordsNode is up, and hears nothing. The last of its uses is the latest one.
type byWordsNode struct {
	entries []api.Entry
	uses    []api.Entry // with the query and From alone: by these there is no other
}

func (m *byWords) newest() api.Stamp {
	return api.Stamp(len(m.commits) - 1)
}

func (m *byWords) state(stamp api.Stamp) api.State {
	var s api.State
	for _, l := range m.commits[:stamp+1] {
		for _, x := range l {
			s[x.Key] = x.Value
		}
	}
	return s
}

func (m *byWords) touches(stamp api.Stamp, query string) bool {
	for _, x := range m.commits[stamp] {
		if strings.Contains(query, string(rune('a'+x.Key))) {
			return true
		}
	}
	return false
}

func (m *byWords) nodeOf(query string) *byWordsNode {
	sum := 0
	for _, b := range []byte(query) {
		sum += int(b)
	}
	return &m.nodes[sum%len(m.nodes)]
}

func (n *byWordsNode) use(x api.Entry) {
	n.uses = append(n.uses, api.Entry{Query: x.Query, From: x.From})
}

// lastUse is -1 for what was never used.
func (n *byWordsNode) lastUse(x api.Entry) int {
	for i := len(n.uses) - 1; i >= 0; i-- {
		if n.uses[i].Query == x.Query && n.uses[i].From == x.From {
			return i
		}
	}
	return -1
}

// covers is for a horizon of 0.
func covers(x api.Entry, stamp api.Stamp) bool {
	return stamp >= x.From && (!x.Open && stamp < x.Till || x.Open && stamp <= x.Known)
}

// both gives the stamps of a span that an entry covers.
func both(x api.Entry, span api.Span) []api.Stamp {
	var l []api.Stamp
	for stamp := span.From; stamp <= span.To; stamp++ {
		if covers(x, stamp) {
			l = append(l, stamp)
		}
	}
	return l
}

func (m *byWords) read(reader int, query string) (int32, bool) {
	r := &m.readers[reader]
	n := m.nodeOf(query)
	var best api.Entry
	var seen []api.Stamp
	for _, x := range n.entries {
		if l := both(x, r.span); x.Query == query && len(l) > 0 && (seen == nil || x.From > best.From) {
			best, seen = x, l
		}
	}
	if seen != nil {
		r.span = api.Span{From: seen[0], To: seen[len(seen)-1]}
		n.use(best)
		r.read = append(r.read, byWordsAnswer{query, best.Value})
		return best.Value, true
	}
	value := m.miss(r, query)
	r.read = append(r.read, byWordsAnswer{query, value})
	return value, false
}

func (m *byWords) miss(r *byWordsReader, query string) int32 {
	value, _ := Eval(query, m.state(r.span.To))
	put := api.Entry{Query: query, Value: value, Open: true, Known: m.newest()}
	for stamp := api.Stamp(1); stamp <= r.span.To; stamp++ {
		if m.touches(stamp, query) {
			put.From = stamp
		}
	}
	for stamp := m.newest(); stamp > r.span.To; stamp-- {
		if m.touches(stamp, query) {
			put.Open = false
			put.Till = stamp
		}
	}
	r.span.From = max(r.span.From, put.From)
	if len(m.puts) < 10 {
		m.puts = append(m.puts, put)
	}
	return value
}

// storePut lets a put arrive at a node with the horizon 0: it is always taken.
func (m *byWords) storePut(i int) {
	put := m.puts[i]
	m.puts = slices.Delete(slices.Clone(m.puts), i, i+1)
	n := m.nodeOf(put.Query)
	n.use(put)
	for j, x := range n.entries {
		if x.Query == put.Query && x.From == put.From {
			if x.Open && !put.Open {
				n.entries[j].Open = false
				n.entries[j].Till = put.Till
			}
			n.entries[j].Known = max(x.Known, put.Known)
			return
		}
	}
	if len(n.entries) == m.room {
		goes := n.goes()
		n.entries = slices.Delete(n.entries, goes, goes+1)
	}
	n.entries = append(n.entries, put)
}

func (n *byWordsNode) goes() int {
	till := api.Stamp(1 << 40)
	for _, x := range n.entries {
		if !x.Open {
			till = min(till, x.Till)
		}
	}
	for i, x := range n.entries {
		if !x.Open && x.Till == till {
			return i
		}
	}
	longest := 0
	for i, x := range n.entries {
		if n.lastUse(x) < n.lastUse(n.entries[longest]) {
			longest = i
		}
	}
	return longest
}

// oneMoment holds if each stamp of a reader's span is right for all that it has
// read, and there is one.
func (m *byWords) oneMoment(t *testing.T, r byWordsReader) {
	t.Helper()
	if r.span.From > r.span.To {
		t.Errorf("P9, P10: a reader has no stamp left: %v", r.span)
	}
	for stamp := r.span.From; stamp <= r.span.To; stamp++ {
		for _, x := range r.read {
			if value, _ := Eval(x.query, m.state(stamp)); value != x.value {
				t.Errorf("P9, P10: a reader of %v read %q: %d, which is %d at %d", r.span, x.query, x.value, value, stamp)
			}
		}
	}
}

func randomQuery(r *rand.Rand) string {
	query := string("abc"[r.Intn(3)])
	for range r.Intn(3) / 2 {
		query += []string{"+", "-", "×", "÷"}[r.Intn(4)] + string("abcdefgh"[r.Intn(8)])
	}
	return query
}

func randomWrites(r *rand.Rand) []api.Write {
	var l []api.Write
	for range r.Intn(4) {
		l = append(l, set(r.Intn(api.Keys), int32(r.Intn(9)-4)))
	}
	return l
}

func TestWorldsByTheWords(t *testing.T) {
	hits := 0
	for seed := range 150 {
		r := rand.New(rand.NewSource(int64(seed)))
		nodes, room := 1+seed%3, 1+seed/3%6
		w := newWorld(t, nodes, room)
		m := byWords{room: room, commits: [][]api.Write{nil}, ticks: []int{0}, nodes: make([]byWordsNode, nodes)}
		for range 250 {
			hits += step(t, r, w, &m)
		}
		for number, x := range m.readers {
			m.oneMoment(t, x)
			if !x.ended {
				end(t, w, number, x.span.From, x.span.To)
			}
		}
		if t.Failed() {
			t.Fatalf("with the seed %d", seed)
		}
	}
	if hits < 1000 {
		t.Errorf("there were only %d hits", hits)
	}
}

// step does one thing in both worlds, and tells how many hits came of it.
func step(t *testing.T, r *rand.Rand, w *World, m *byWords) int {
	t.Helper()
	hits := 0
	switch k := r.Intn(24); {
	case k < 3:
		l := randomWrites(r)
		commit(t, w, m.newest()+1, l...)
		m.commits = append(m.commits, l)
		m.ticks = append(m.ticks, m.clock)
	case k < 5:
		tick(t, w)
		m.clock++
	case k < 8:
		stepReaders(t, r, w, m)
	case k < 13 && len(m.puts) > 0:
		i := r.Intn(len(m.puts))
		storePut(t, w, i)
		m.storePut(i)
	case k == 13 && len(m.puts) > 0:
		i := r.Intn(len(m.puts))
		drop(t, w, i)
		m.puts = slices.Delete(slices.Clone(m.puts), i, i+1)
	case k == 14:
		stepEvict(t, r, w, m)
	default:
		hits = stepRead(t, r, w, m)
	}
	putsAre(t, w, m.puts...)
	for i := range m.nodes {
		nodeIs(t, w, i, m.nodes[i].entries...)
	}
	return hits
}

// reading gives the numbers of the readers that have not ended.
func (m *byWords) reading() []int {
	var l []int
	for number, x := range m.readers {
		if !x.ended {
			l = append(l, number)
		}
	}
	return l
}

func stepReaders(t *testing.T, r *rand.Rand, w *World, m *byWords) {
	t.Helper()
	l := m.reading()
	if len(l) < api.MaxReaders {
		limit := r.Intn(6)
		begin(t, w, limit, len(m.readers))
		from := leastNewest(m.ticks, m.clock, limit)
		m.readers = append(m.readers, byWordsReader{span: api.Span{From: from, To: m.newest()}})
		return
	}
	number := l[r.Intn(len(l))]
	end(t, w, number, m.readers[number].span.From, m.readers[number].span.To)
	m.readers[number].ended = true
}

func stepEvict(t *testing.T, r *rand.Rand, w *World, m *byWords) {
	t.Helper()
	node := r.Intn(len(m.nodes))
	n := &m.nodes[node]
	if len(n.entries) == 0 {
		noEvict(t, w, node, 0, api.ErrArg)
		return
	}
	i := r.Intn(len(n.entries))
	evict(t, w, node, i)
	n.entries = slices.Delete(n.entries, i, i+1)
}

func stepRead(t *testing.T, r *rand.Rand, w *World, m *byWords) int {
	t.Helper()
	l := m.reading()
	if len(l) == 0 {
		return 0
	}
	number := l[r.Intn(len(l))]
	query := randomQuery(r)
	value, hit := m.read(number, query)
	if !hit {
		read(t, w, number, query, value)
		return 0
	}
	readHit(t, w, number, query, value)
	return 1
}
