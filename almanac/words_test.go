package almanac

import (
	"math/rand"
	"slices"
	"strings"
	"testing"

	"almanac/api"
)

// byWords is a world by the words of the document, with nothing worked out ahead.
type byWords struct {
	room    int
	commits [][]api.Write // of each stamp; stamp 0 wrote nothing
	ticks   []int         // of each stamp
	clock   int
	readers []byWordsReader // all that have ever begun
	puts    []api.Entry
	nodes   []byWordsNode
}

type byWordsReader struct {
	ended bool
	span  api.Span
	read  []byWordsAnswer
}

type byWordsAnswer struct {
	query string
	value int32
}

// byWordsNode has its link with it. The last of its uses is the latest one.
type byWordsNode struct {
	up      bool
	horizon api.Stamp
	heard   []api.Stamp // since it came up: the history is the last six of them
	waiting []api.Stamp // in the order in which they came
	flight  []api.Stamp
	entries []api.Entry
	uses    []api.Entry // with the query and From alone: by these there is no other
}

func (m *byWords) newest() api.Stamp {
	return api.Stamp(len(m.commits) - 1)
}

func (m *byWords) state(stamp api.Stamp) api.State {
	var s api.State
	for _, l := range m.commits[:stamp+1] {
		for _, x := range l {
			s[x.Key] = x.Value
		}
	}
	return s
}

func (m *byWords) touches(stamp api.Stamp, query string) bool {
	for _, x := range m.commits[stamp] {
		if strings.Contains(query, string(rune('a'+x.Key))) {
			return true
		}
	}
	return false
}

func (m *byWords) nodeOf(query string) *byWordsNode {
	sum := 0
	for _, b := range []byte(query) {
		sum += int(b)
	}
	return &m.nodes[sum%len(m.nodes)]
}

func (n *byWordsNode) use(x api.Entry) {
	n.uses = append(n.uses, api.Entry{Query: x.Query, From: x.From})
}

// lastUse is -1 for what was never used.
func (n *byWordsNode) lastUse(x api.Entry) int {
	for i := len(n.uses) - 1; i >= 0; i-- {
		if n.uses[i].Query == x.Query && n.uses[i].From == x.From {
			return i
		}
	}
	return -1
}

func (n *byWordsNode) covers(x api.Entry, stamp api.Stamp) bool {
	last := max(x.Known, n.horizon)
	if !x.Open {
		last = x.Till - 1
	}
	return stamp >= x.From && stamp <= last
}

// both gives the stamps of a span that an entry covers.
func (n *byWordsNode) both(x api.Entry, span api.Span) []api.Stamp {
	var l []api.Stamp
	for stamp := span.From; stamp <= span.To; stamp++ {
		if n.covers(x, stamp) {
			l = append(l, stamp)
		}
	}
	return l
}

func (m *byWords) read(reader int, query string) (int32, bool) {
	r := &m.readers[reader]
	n := m.nodeOf(query)
	var best api.Entry
	var seen []api.Stamp
	for _, x := range n.entries {
		if l := n.both(x, r.span); x.Query == query && len(l) > 0 && (seen == nil || x.From > best.From) {
			best, seen = x, l
		}
	}
	if seen != nil {
		r.span = api.Span{From: seen[0], To: seen[len(seen)-1]}
		n.use(best)
		r.read = append(r.read, byWordsAnswer{query, best.Value})
		return best.Value, true
	}
	value := m.miss(r, query)
	r.read = append(r.read, byWordsAnswer{query, value})
	return value, false
}

func (m *byWords) miss(r *byWordsReader, query string) int32 {
	value, _ := Eval(query, m.state(r.span.To))
	put := api.Entry{Query: query, Value: value, Open: true, Known: m.newest()}
	for stamp := api.Stamp(1); stamp <= r.span.To; stamp++ {
		if m.touches(stamp, query) {
			put.From = stamp
		}
	}
	for stamp := m.newest(); stamp > r.span.To; stamp-- {
		if m.touches(stamp, query) {
			put.Open = false
			put.Till = stamp
		}
	}
	r.span.From = max(r.span.From, put.From)
	if len(m.puts) < 10 {
		m.puts = append(m.puts, put)
	}
	return value
}

// late gives a put as it becomes at a node that knows more, or false if the node
// does not take it.
func (m *byWords) late(n *byWordsNode, put api.Entry) (api.Entry, bool) {
	if !put.Open || n.horizon <= put.Known {
		return put, true
	}
	history := n.heard[max(0, len(n.heard)-6):]
	for stamp := put.Known + 1; stamp <= n.horizon; stamp++ {
		if !slices.Contains(history, stamp) {
			return put, false
		}
	}
	for stamp := put.Known + 1; stamp <= n.horizon; stamp++ {
		if m.touches(stamp, put.Query) {
			put.Open, put.Till = false, stamp
			return put, true
		}
	}
	put.Known = n.horizon
	return put, true
}

// storePut lets a put arrive, and tells what came of it.
func (m *byWords) storePut(i int) string {
	was := m.puts[i]
	m.puts = slices.Delete(slices.Clone(m.puts), i, i+1)
	n := m.nodeOf(was.Query)
	if !n.up {
		return "not up"
	}
	put, taken := m.late(n, was)
	if !taken {
		return "not known"
	}
	n.use(put)
	for j, x := range n.entries {
		if x.Query == put.Query && x.From == put.From {
			if x.Open && !put.Open {
				n.entries[j].Open = false
				n.entries[j].Till = put.Till
			}
			n.entries[j].Known = max(x.Known, put.Known)
			return "taken as another"
		}
	}
	if len(n.entries) == m.room {
		goes := n.goes()
		n.entries = slices.Delete(n.entries, goes, goes+1)
	}
	n.entries = append(n.entries, put)
	switch {
	case put.Open != was.Open:
		return "laid as not Open"
	case put.Known != was.Known:
		return "laid as known later"
	}
	return "laid"
}

func (n *byWordsNode) goes() int {
	till := api.Stamp(1 << 40)
	for _, x := range n.entries {
		if !x.Open {
			till = min(till, x.Till)
		}
	}
	for i, x := range n.entries {
		if !x.Open && x.Till == till {
			return i
		}
	}
	longest := 0
	for i, x := range n.entries {
		if n.lastUse(x) < n.lastUse(n.entries[longest]) {
			longest = i
		}
	}
	return longest
}

func (n *byWordsNode) falls() {
	*n = byWordsNode{}
}

// commit tells how many nodes fell.
func (m *byWords) commit(l []api.Write) int {
	m.commits = append(m.commits, l)
	m.ticks = append(m.ticks, m.clock)
	fell := 0
	stamp := len(m.commits) - 1
	for i := range m.nodes {
		n := &m.nodes[i]
		n.flight = slices.DeleteFunc(n.flight, func(x api.Stamp) bool { return int(x) <= stamp-100 })
		if n.up && int(n.horizon) < stamp-40 {
			n.falls()
			fell++
		}
		if len(n.flight) < 12 {
			n.flight = append(n.flight, api.Stamp(stamp))
		}
	}
	return fell
}

func (m *byWords) hears(n *byWordsNode, stamp api.Stamp) {
	n.horizon = stamp
	n.heard = append(n.heard, stamp)
	for i, x := range n.entries {
		if x.Open && x.Known < stamp && m.touches(stamp, x.Query) {
			n.entries[i].Open = false
			n.entries[i].Till = stamp
		}
	}
	if i := slices.Index(n.waiting, stamp+1); i >= 0 {
		n.waiting = slices.Delete(n.waiting, i, i+1)
		m.hears(n, stamp+1)
	}
}

// deliver tells what came of the message.
func (m *byWords) deliver(n *byWordsNode, i int) string {
	stamp := n.flight[i]
	n.flight = slices.Delete(n.flight, i, i+1)
	if !n.up {
		return "lost at a node that is not up"
	}
	d := int(stamp) - int(n.horizon+1)
	switch {
	case d < 0:
		return "late"
	case d == 0:
		m.hears(n, stamp)
		if n.horizon > stamp {
			return "heard with others"
		}
		return "heard"
	case d > 4:
		return "too far ahead"
	case slices.Contains(n.waiting, stamp):
		return "waits already"
	}
	n.waiting = append(n.waiting, stamp)
	return "waits"
}

// ask tells the horizon.
func (m *byWords) ask(n *byWordsNode) api.Stamp {
	switch {
	case !n.up:
		*n = byWordsNode{up: true, horizon: m.newest(), flight: n.flight}
	case n.horizon < m.newest():
		m.hears(n, n.horizon+1)
	}
	return n.horizon
}

func (n *byWordsNode) report() api.Report {
	report := api.Report{Up: n.up, Horizon: n.horizon, Entries: n.entries}
	for _, stamp := range slices.Sorted(slices.Values(n.waiting)) {
		report.Waiting = append(report.Waiting, uint8(stamp%256))
	}
	return report
}

func (m *byWords) messages(n *byWordsNode) []api.Message {
	var l []api.Message
	for _, stamp := range n.flight {
		keys := uint8(0)
		for _, x := range m.commits[stamp] {
			keys |= 1 << x.Key
		}
		l = append(l, api.Message{Number: uint8(stamp % 256), Keys: keys})
	}
	return l
}

// oneMoment holds if each stamp of a reader's span is right for all that it has
// read, and there is one.
func (m *byWords) oneMoment(t *testing.T, r byWordsReader) {
	t.Helper()
	if r.span.From > r.span.To {
		t.Errorf("P9, P10: a reader has no stamp left: %v", r.span)
	}
	for stamp := r.span.From; stamp <= r.span.To; stamp++ {
		for _, x := range r.read {
			if value, _ := Eval(x.query, m.state(stamp)); value != x.value {
				t.Errorf("P9, P10: a reader of %v read %q: %d, which is %d at %d", r.span, x.query, x.value, value, stamp)
			}
		}
	}
}

func randomQuery(r *rand.Rand) string {
	query := string("abc"[r.Intn(3)])
	for range r.Intn(3) / 2 {
		query += []string{"+", "-", "×", "÷"}[r.Intn(4)] + string("abcdefgh"[r.Intn(8)])
	}
	return query
}

func randomWrites(r *rand.Rand) []api.Write {
	var l []api.Write
	for range r.Intn(4) {
		l = append(l, set(r.Intn(api.Keys), int32(r.Intn(9)-4)))
	}
	return l
}

// TestWorldsByTheWords has short runs, and long ones in which the numbers of the
// messages begin anew and the stamps come to their end.
func TestWorldsByTheWords(t *testing.T) {
	seen := map[string]int{}
	for seed := range 150 {
		r := rand.New(rand.NewSource(int64(seed)))
		nodes, room := 1+seed%3, 1+seed/3%6
		w := newWorld(t, nodes, room)
		m := byWords{room: room, commits: [][]api.Write{nil}, ticks: []int{0}}
		for range nodes {
			m.nodes = append(m.nodes, byWordsNode{up: true})
		}
		steps := 400
		if seed%16 == 0 {
			steps = 8000
		}
		for range steps {
			step(t, r, w, &m, seen)
			if t.Failed() {
				t.Fatalf("with the seed %d", seed)
			}
		}
		for number, x := range m.readers {
			m.oneMoment(t, x)
			if !x.ended {
				end(t, w, number, x.span.From, x.span.To)
			}
		}
	}
	for _, what := range []string{"hit", "fell", "no more stamps", "not up", "not known", "taken as another",
		"laid", "laid as not Open", "laid as known later", "lost at a node that is not up", "late", "heard",
		"heard with others", "too far ahead", "waits already", "waits", "no room for a copy"} {
		if seen[what] < 20 {
			t.Errorf("%q came about %d times: %v", what, seen[what], seen)
		}
	}
}

// step does one thing in both worlds, and counts what came of it.
func step(t *testing.T, r *rand.Rand, w *World, m *byWords, seen map[string]int) {
	t.Helper()
	switch k := r.Intn(40); {
	case k < 4:
		stepCommit(t, r, w, m, seen)
	case k < 6:
		tick(t, w)
		m.clock++
	case k < 8:
		stepReaders(t, r, w, m)
	case k < 14 && len(m.puts) > 0:
		i := r.Intn(len(m.puts))
		what := m.storePut(i)
		seen[what]++
		if strings.HasPrefix(what, "not") {
			refuse(t, w, i)
		} else {
			storePut(t, w, i)
		}
	case k == 14 && len(m.puts) > 0:
		i := r.Intn(len(m.puts))
		drop(t, w, i)
		m.puts = slices.Delete(slices.Clone(m.puts), i, i+1)
	case k == 15:
		stepEvict(t, r, w, m)
	case k < 26:
		stepLink(t, r, w, m, seen)
	case k < 28:
		stepNode(t, r, w, m)
	default:
		seen["hit"] += stepRead(t, r, w, m)
	}
	putsAre(t, w, m.puts...)
	now(t, w, m.newest(), m.clock)
	for i := range m.nodes {
		reportIs(t, w, i, m.nodes[i].report())
		flightIs(t, w, i, m.messages(&m.nodes[i])...)
	}
}

func stepCommit(t *testing.T, r *rand.Rand, w *World, m *byWords, seen map[string]int) {
	t.Helper()
	l := randomWrites(r)
	if m.newest() < 700 {
		commit(t, w, m.newest()+1, l...)
		seen["fell"] += m.commit(l)
		return
	}
	seen["no more stamps"]++
	if stamp, e := w.Commit(l); stamp != 0 || e != api.ErrFull {
		t.Errorf("P6: Commit(%v) = %d, %d, want ErrFull", l, stamp, e)
	}
}

func stepLink(t *testing.T, r *rand.Rand, w *World, m *byWords, seen map[string]int) {
	t.Helper()
	node := r.Intn(len(m.nodes))
	n := &m.nodes[node]
	i := len(n.flight)
	if i == 0 {
		noMessage(t, w, node, i, api.ErrArg)
		return
	}
	i = r.Intn(i)
	if r.Intn(2) == 0 {
		i = 0
	}
	switch k := r.Intn(10); {
	case k < 7:
		deliver(t, w, node, i)
		seen[m.deliver(n, i)]++
	case k < 9 && len(n.flight) < 12:
		copyOf(t, w, node, i)
		n.flight = append(n.flight, n.flight[i])
	case k < 9:
		seen["no room for a copy"]++
		if e := w.Copy(node, i); e != api.ErrFull {
			t.Errorf("P14: Copy(%d, %d) = %d, want ErrFull", node, i, e)
		}
	default:
		lose(t, w, node, i)
		n.flight = slices.Delete(n.flight, i, i+1)
	}
}

func stepNode(t *testing.T, r *rand.Rand, w *World, m *byWords) {
	t.Helper()
	node := r.Intn(len(m.nodes))
	n := &m.nodes[node]
	if r.Intn(10) > 0 {
		ask(t, w, node, m.ask(n))
		return
	}
	restart(t, w, node)
	n.falls()
}

// reading gives the numbers of the readers that have not ended.
func (m *byWords) reading() []int {
	var l []int
	for number, x := range m.readers {
		if !x.ended {
			l = append(l, number)
		}
	}
	return l
}

func stepReaders(t *testing.T, r *rand.Rand, w *World, m *byWords) {
	t.Helper()
	l := m.reading()
	if len(l) < api.MaxReaders && len(m.readers) < api.MaxBegun {
		limit := r.Intn(6)
		begin(t, w, limit, len(m.readers))
		from := leastNewest(m.ticks, m.clock, limit)
		m.readers = append(m.readers, byWordsReader{span: api.Span{From: from, To: m.newest()}})
		return
	}
	if len(l) == 0 {
		return
	}
	number := l[r.Intn(len(l))]
	end(t, w, number, m.readers[number].span.From, m.readers[number].span.To)
	m.readers[number].ended = true
}

func stepEvict(t *testing.T, r *rand.Rand, w *World, m *byWords) {
	t.Helper()
	node := r.Intn(len(m.nodes))
	n := &m.nodes[node]
	if len(n.entries) == 0 {
		noEvict(t, w, node, 0, api.ErrArg)
		return
	}
	i := r.Intn(len(n.entries))
	evict(t, w, node, i)
	n.entries = slices.Delete(n.entries, i, i+1)
}

func stepRead(t *testing.T, r *rand.Rand, w *World, m *byWords) int {
	t.Helper()
	l := m.reading()
	if len(l) == 0 {
		return 0
	}
	number := l[r.Intn(len(l))]
	query := randomQuery(r)
	value, hit := m.read(number, query)
	if !hit {
		read(t, w, number, query, value)
		return 0
	}
	readHit(t, w, number, query, value)
	return 1
}
