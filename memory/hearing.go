package memory

import (
	"almanac/api"
	"almanac/queries"
)

// Up tells whether the node is up.
func (n *Node) Up() bool {
	return n.up
}

// Horizon tells up to which stamp the node has heard of all commits: 0 if it is
// not up.
func (n *Node) Horizon() api.Stamp {
	return n.horizon
}

// Lags tells whether the node is up and has heard too little to stay so at the
// commit with this stamp.
func (n *Node) Lags(stamp api.Stamp) bool {
	// Not stamp - MaxLag: that may be below 0, which a stamp cannot be.
	return n.up && n.horizon+api.MaxLag < stamp
}

// Rise lets the node come up, with nothing but a horizon.
func (n *Node) Rise(horizon api.Stamp) {
	*n = Node{up: true, room: n.room, horizon: horizon}
}

// Fall lets the node go down, and with it all but its room.
func (n *Node) Fall() {
	*n = Node{room: n.room}
}

// Arrive lets the message of a commit arrive: its stamp, and the keys it wrote.
func (n *Node) Arrive(stamp api.Stamp, keys uint8) {
	if !n.up || stamp <= n.horizon {
		return
	}
	ahead := stamp - n.horizon - 1
	if ahead == 0 {
		n.Hear(keys)
		return
	}
	if ahead > api.MaxAhead || n.waits(stamp) {
		return
	}
	n.waiting = append(n.waiting, commit{stamp: stamp, keys: keys})
}

// Hear lets a node that is up hear of the commit behind its horizon, which wrote
// these keys, and then of those that wait to be next.
func (n *Node) Hear(keys uint8) {
	n.hearOne(keys)
	// No more than MaxAhead wait, so that is how often one can be next.
	for range api.MaxAhead {
		next, waited := n.next()
		if !waited {
			return
		}
		n.hearOne(next)
	}
}

// hearOne is Hear without those that wait.
func (n *Node) hearOne(keys uint8) {
	n.horizon++
	n.recall(commit{stamp: n.horizon, keys: keys})
	for i := range n.entries {
		x := &n.entries[i]
		x.hear(n.horizon, keys)
	}
}

// recall lets a commit join the history, from which the oldest goes if it has
// become too long.
func (n *Node) recall(c commit) {
	n.history = append(n.history, c)
	if len(n.history) <= api.MaxHistory {
		return
	}
	var rest []commit
	for i, x := range n.history {
		if i > 0 {
			rest = append(rest, x)
		}
	}
	n.history = rest
}

// hear lets an entry end with a commit that touches it. What is known to be right
// at that stamp was answered behind the commit, and so is not changed by it.
func (x *held) hear(stamp api.Stamp, keys uint8) {
	if !x.entry.Open || x.entry.Known >= stamp {
		return
	}
	shape, _ := queries.Parse(x.entry.Query) // an entry is of a query: it has no error
	if keys&shape.Keys != 0 {
		x.entry.Open = false
		x.entry.Till = stamp
	}
}

// next takes the message of the commit behind the horizon from those that wait,
// and tells the keys it wrote, or false if it does not wait.
func (n *Node) next() (uint8, bool) {
	var rest []commit
	keys := uint8(0)
	waited := false
	for _, c := range n.waiting {
		if c.stamp == n.horizon+1 {
			keys = c.keys
			waited = true
		} else {
			rest = append(rest, c)
		}
	}
	n.waiting = rest
	return keys, waited
}

func (n *Node) waits(stamp api.Stamp) bool {
	for _, c := range n.waiting {
		if c.stamp == stamp {
			return true
		}
	}
	return false
}

// waitingNumbers gives the numbers of the messages that wait, by their stamps:
// not by the numbers, since these begin anew behind 255.
func (n *Node) waitingNumbers() []uint8 {
	var l []uint8
	first := n.horizon + 2
	for stamp := first; stamp < first+api.MaxAhead; stamp++ {
		if n.waits(stamp) {
			l = append(l, uint8(stamp&0xff))
		}
	}
	return l
}
