// Package links keeps the messages that are on their way to a node (P14).
package links

import "almanac/api"

// Sent is a message with its commit's whole stamp: whoever sends it knows that,
// and by its number alone a message would not tell how old it is.
type Sent struct {
	Stamp api.Stamp
	Keys  uint8 // the keys that the commit wrote
}

// Link is what is on its way to one node, one behind the other; the zero Link is
// nothing.
type Link struct {
	messages []Sent
}

// Send lets a message join the others, behind them, if there is room for it.
func (k *Link) Send(x Sent) {
	if k.full() {
		return
	}
	k.messages = append(k.messages, x)
}

// Age loses the messages that are too old at the commit with the stamp t.
func (k *Link) Age(t api.Stamp) {
	var rest []Sent
	for _, x := range k.messages {
		// Not t - MaxAge: that may be below 0, which a stamp cannot be.
		if x.Stamp+api.MaxAge > t {
			rest = append(rest, x)
		}
	}
	k.messages = rest
}

// Clear loses all messages.
func (k *Link) Clear() {
	k.messages = nil
}

// List tells the messages in their order, in a list that is the caller's.
func (k *Link) List() []api.Message {
	var l []api.Message
	for _, x := range k.messages {
		l = append(l, api.Message{Number: uint8(x.Stamp & 0xff), Keys: x.Keys})
	}
	return l
}

// Take takes a message away, and tells it.
func (k *Link) Take(i int) (Sent, api.Errno) {
	if i < 0 || i >= len(k.messages) {
		return Sent{}, api.ErrArg
	}
	taken := k.messages[i]
	var rest []Sent
	for j, x := range k.messages {
		if j != i {
			rest = append(rest, x)
		}
	}
	k.messages = rest
	return taken, api.OK
}

// Copy lets a message join the others once more.
func (k *Link) Copy(i int) api.Errno {
	if i < 0 || i >= len(k.messages) {
		return api.ErrArg
	}
	if k.full() {
		return api.ErrFull
	}
	k.messages = append(k.messages, k.messages[i])
	return api.OK
}

func (k *Link) full() bool {
	return len(k.messages) >= api.MaxFlight
}
