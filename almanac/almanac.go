// Package almanac: a store with a past, and memories beside it: see DOC.md.
package almanac

import (
	"almanac/api"
	"almanac/links"
	"almanac/memory"
	"almanac/puts"
	"almanac/queries"
	"almanac/readers"
	"almanac/store"
)

// World is a store with its nodes, links, puts and readers.
type World struct {
	store   store.Store
	readers readers.Readers
	puts    puts.Puts
	sites   []site // sites[i] is that of the node i
}

// site is a node, and the link to it.
type site struct {
	node memory.Node
	link links.Link
}

// Parse tells what a query is (P3).
func Parse(query string) (api.Shape, api.Errno) {
	return queries.Parse(query)
}

// Eval tells what a query is in a state (P4).
func Eval(query string, s api.State) (int32, api.Errno) {
	return queries.Eval(query, s)
}

// New gives a world (P5).
func New(nodes int, room int) (*World, api.Errno) {
	if nodes < 1 || nodes > api.MaxNodes {
		return nil, api.ErrNodes
	}
	if room < 1 || room > api.MaxRoom {
		return nil, api.ErrRoom
	}
	w := &World{}
	for range nodes {
		w.sites = append(w.sites, site{node: memory.New(room)})
	}
	return w, api.OK
}

// Commit writes (P6), and tells the nodes (P14).
func (w *World) Commit(l []api.Write) (api.Stamp, api.Errno) {
	stamp, e := w.store.Commit(l)
	if e != api.OK {
		return 0, e
	}
	keys := w.store.Wrote(stamp)
	for i := range w.sites {
		s := &w.sites[i]
		s.tell(stamp, keys)
	}
	return stamp, api.OK
}

// Tick lets the clock go on (P7).
func (w *World) Tick() api.Errno {
	return w.store.Tick()
}

// Now tells the newest stamp and the clock (P7).
func (w *World) Now() (api.Stamp, int) {
	newest := w.store.Newest()
	return newest, w.store.Clock()
}

// Begin begins a reader (P8).
func (w *World) Begin(limit int) (int, api.Errno) {
	if limit < 0 || limit > api.MaxClock {
		return 0, api.ErrArg
	}
	// A tick below 0 needs no case of its own: all ticks are from there on.
	tick := w.store.Clock() - limit
	from := w.store.Since(tick)
	to := w.store.Newest()
	return w.readers.Begin(api.Span{From: from, To: to})
}

// Read tells a reader what a query is, and whether a node knew (P9, P10).
func (w *World) Read(reader int, query string) (int32, bool, api.Errno) {
	span, e := w.readers.Span(reader)
	if e != api.OK {
		return 0, false, e
	}
	shape, e := queries.Parse(query)
	if e != api.OK {
		return 0, false, e
	}
	node := w.nodeOf(query)
	value, cover, hit := node.Answer(query, span)
	if hit {
		w.readers.Narrow(reader, cover)
		return value, true, api.OK
	}
	put := w.answer(query, shape.Keys, span.To)
	w.readers.Narrow(reader, api.Span{From: put.From, To: span.To})
	w.puts.Join(put)
	return put.Value, false, api.OK
}

// answer is what the store tells of a query with these keys at a stamp, as the
// put that it becomes (P10).
func (w *World) answer(query string, keys uint8, t api.Stamp) api.Entry {
	state := w.store.At(t)
	value, _ := queries.Eval(query, state) // who asks has parsed it: it has no error
	from, till := w.store.Right(keys, t)
	newest := w.store.Newest()
	return api.Entry{Query: query, Value: value, From: from, Till: till, Open: till == 0, Known: newest}
}

// End ends a reader, and tells its span (P8).
func (w *World) End(reader int) (api.Span, api.Errno) {
	return w.readers.End(reader)
}

// Puts tells what is on its way to be remembered (P11).
func (w *World) Puts() []api.Entry {
	return w.puts.List()
}

// Store lets a put arrive (P12).
func (w *World) Store(i int) (bool, api.Errno) {
	put, e := w.puts.Take(i)
	if e != api.OK {
		return false, e
	}
	node := w.nodeOf(put.Query)
	return node.Store(put), api.OK
}

// Drop loses a put (P11).
func (w *World) Drop(i int) api.Errno {
	_, e := w.puts.Take(i)
	return e
}

// Evict lets a node forget an entry (P13).
func (w *World) Evict(node int, i int) api.Errno {
	s, e := w.siteAt(node)
	if e != api.OK {
		return e
	}
	return s.node.Evict(i)
}

// Look tells what a node is (P13).
func (w *World) Look(node int) (api.Report, api.Errno) {
	s, e := w.siteAt(node)
	if e != api.OK {
		return api.Report{}, e
	}
	return s.node.Look(), api.OK
}

// Flight tells the messages on their way to a node (P14).
func (w *World) Flight(node int) ([]api.Message, api.Errno) {
	s, e := w.siteAt(node)
	if e != api.OK {
		return nil, e
	}
	return s.link.List(), api.OK
}

// Deliver lets a message arrive (P15).
func (w *World) Deliver(node int, i int) api.Errno {
	s, e := w.siteAt(node)
	if e != api.OK {
		return e
	}
	message, e := s.link.Take(i)
	if e != api.OK {
		return e
	}
	s.node.Arrive(message.Stamp, message.Keys)
	return api.OK
}

// Lose loses a message (P14).
func (w *World) Lose(node int, i int) api.Errno {
	s, e := w.siteAt(node)
	if e != api.OK {
		return e
	}
	_, e = s.link.Take(i)
	return e
}

// Copy makes a message twice (P14).
func (w *World) Copy(node int, i int) api.Errno {
	s, e := w.siteAt(node)
	if e != api.OK {
		return e
	}
	return s.link.Copy(i)
}

// Ask lets a node ask for what it has not heard (P16).
func (w *World) Ask(node int) (api.Stamp, api.Errno) {
	s, e := w.siteAt(node)
	if e != api.OK {
		return 0, e
	}
	newest := w.store.Newest()
	if !s.node.Up() {
		s.node.Rise(newest)
		return newest, api.OK
	}
	horizon := s.node.Horizon()
	if horizon < newest {
		keys := w.store.Wrote(horizon + 1)
		s.node.Hear(keys)
	}
	return s.node.Horizon(), api.OK
}

// Restart lets a node fall (P16).
func (w *World) Restart(node int) api.Errno {
	s, e := w.siteAt(node)
	if e != api.OK {
		return e
	}
	s.fall()
	return api.OK
}

// siteAt gives the site of the node with a number.
func (w *World) siteAt(number int) (*site, api.Errno) {
	if number < 0 || number >= len(w.sites) {
		return nil, api.ErrNode
	}
	return &w.sites[number], api.OK
}

// nodeOf gives the node of a query. There always is one: New gave the world at
// least one node, and the number is below how many there are.
func (w *World) nodeOf(query string) *memory.Node {
	number := queries.Node(query, len(w.sites))
	return &w.sites[number].node
}

// tell is what a commit does for a node (P14).
func (s *site) tell(stamp api.Stamp, keys uint8) {
	s.link.Age(stamp)
	if s.node.Lags(stamp) {
		s.fall()
	}
	s.link.Send(links.Sent{Stamp: stamp, Keys: keys})
}

// fall lets the node fall, and loses what is on its way to it (P16).
func (s *site) fall() {
	s.node.Fall()
	s.link.Clear()
}
