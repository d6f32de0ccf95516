// Package memory keeps what a node remembers, and how far it has heard of what
// was written (P9, P12, P13, P15, P16).
package memory

import (
	"almanac/api"
	"almanac/queries"
)

// held is an entry, with the number of the use of its node that was its last.
type held struct {
	entry api.Entry
	used  uint64
}

// commit is one of which the node has heard, or of which a message waits.
type commit struct {
	stamp api.Stamp
	keys  uint8 // the keys it wrote
}

// Node is a node; the zero Node is not up. One that is not up has its room alone.
type Node struct {
	up      bool
	room    int
	horizon api.Stamp
	history []commit // in the order of their stamps, the last one at the horizon
	waiting []commit // 1 to MaxAhead above the stamp behind the horizon, in any order
	entries []held   // in the order in which they were laid
	uses    uint64   // how often entries were used
}

// New gives a node that is up and empty, with the horizon 0.
func New(room int) Node {
	return Node{up: true, room: room}
}

// Answer tells the value that the node remembers of a query at a stamp of the
// span, and the stamps that its entry covers; false if there is no such entry.
func (n *Node) Answer(query string, span api.Span) (int32, api.Span, bool) {
	x := n.latest(query, span)
	if x == nil {
		return 0, api.Span{}, false
	}
	n.use(x)
	return x.entry.Value, n.cover(x.entry), true
}

// Store lets a put arrive, and tells whether the node takes it.
func (n *Node) Store(put api.Entry) bool {
	if !n.up {
		return false
	}
	put, known := n.caughtUp(put)
	if !known {
		return false
	}
	x := n.same(put)
	if x != nil {
		x.merge(put)
		n.use(x)
		return true
	}
	n.lay(put)
	return true
}

// Evict lets the node forget an entry.
func (n *Node) Evict(i int) api.Errno {
	if i < 0 || i >= len(n.entries) {
		return api.ErrArg
	}
	n.remove(i)
	return api.OK
}

// Look tells what the node is, in lists that are the caller's.
func (n *Node) Look() api.Report {
	var l []api.Entry
	for _, x := range n.entries {
		l = append(l, x.entry)
	}
	waiting := n.waitingNumbers()
	return api.Report{Up: n.up, Horizon: n.horizon, Waiting: waiting, Entries: l}
}

// latest gives, of the entries of a query that cover a stamp of the span, the
// one with the greatest From, or nil if there is none.
func (n *Node) latest(query string, span api.Span) *held {
	var best *held
	for i := range n.entries {
		x := &n.entries[i]
		cover := n.cover(x.entry)
		if x.entry.Query != query || cover.From > span.To || cover.To < span.From {
			continue
		}
		if best == nil || x.entry.From > best.entry.From {
			best = x
		}
	}
	return best
}

// cover gives the stamps that an entry covers at this node.
func (n *Node) cover(x api.Entry) api.Span {
	if !x.Open {
		return api.Span{From: x.From, To: x.Till - 1}
	}
	if x.Known < n.horizon {
		return api.Span{From: x.From, To: n.horizon}
	}
	return api.Span{From: x.From, To: x.Known}
}

// caughtUp gives a put as it becomes by what the node heard of behind its Known,
// or false if the node cannot tell.
func (n *Node) caughtUp(put api.Entry) (api.Entry, bool) {
	if !put.Open || n.horizon <= put.Known {
		return put, true
	}
	shape, _ := queries.Parse(put.Query) // a put is of a query: it has no error
	for t := put.Known + 1; t <= n.horizon; t++ {
		keys, known := n.wrote(t)
		if !known {
			return api.Entry{}, false
		}
		// All stamps must be known, so a touch does not end the search.
		if put.Open && keys&shape.Keys != 0 {
			put.Open = false
			put.Till = t
		}
	}
	if put.Open {
		put.Known = n.horizon
	}
	return put, true
}

// wrote gives the keys that a commit of the history wrote, or false if it is not
// in there.
func (n *Node) wrote(t api.Stamp) (uint8, bool) {
	for _, c := range n.history {
		if c.stamp == t {
			return c.keys, true
		}
	}
	return 0, false
}

// same gives the entry that a put is, or nil if there is none.
func (n *Node) same(put api.Entry) *held {
	for i := range n.entries {
		x := &n.entries[i]
		if x.entry.Query == put.Query && x.entry.From == put.From {
			return x
		}
	}
	return nil
}

// merge lets an entry know what a put of the same answer knows.
func (x *held) merge(put api.Entry) {
	if x.entry.Open && !put.Open {
		x.entry.Open = false
		x.entry.Till = put.Till
	}
	if x.entry.Known < put.Known {
		x.entry.Known = put.Known
	}
}

func (n *Node) use(x *held) {
	n.uses++
	x.used = n.uses
}

// lay lays a put as a new entry, for which another one goes if there is no room.
func (n *Node) lay(put api.Entry) {
	if len(n.entries) >= n.room {
		i := n.leastWorth()
		n.remove(i)
	}
	n.uses++
	n.entries = append(n.entries, held{entry: put, used: n.uses})
}

// leastWorth tells which entry goes if one must. Of several alike it is the one
// that was laid first.
func (n *Node) leastWorth() int {
	least := 0
	for i, x := range n.entries {
		if goesAheadOf(x, n.entries[least]) {
			least = i
		}
	}
	return least
}

func goesAheadOf(x held, y held) bool {
	if x.entry.Open != y.entry.Open {
		return y.entry.Open
	}
	if x.entry.Open {
		return x.used < y.used
	}
	return x.entry.Till < y.entry.Till
}

// remove takes the entry i away.
func (n *Node) remove(i int) {
	var rest []held
	for j, x := range n.entries {
		if j != i {
			rest = append(rest, x)
		}
	}
	n.entries = rest
}
