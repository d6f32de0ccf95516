// Package queries reads query texts and works them out (P3, P4), and tells which
// node is theirs.
package queries

import "almanac/api"

const (
	plus = iota
	minus
	times
	over
)

// step is a term with the sign ahead of it.
type step struct {
	sign int
	key  int
}

// Parse tells the keys of a query and how many terms it has.
func Parse(query string) (api.Shape, api.Errno) {
	l, e := read(query)
	if e != api.OK {
		return api.Shape{}, e
	}
	shape := api.Shape{Terms: len(l)}
	for _, s := range l {
		shape.Keys |= bit(s.key)
	}
	return shape, api.OK
}

// Eval tells what a query is in a state.
func Eval(query string, state api.State) (int32, api.Errno) {
	l, e := read(query)
	if e != api.OK {
		return 0, e
	}
	value := int32(0)
	for _, s := range l {
		value = apply(value, s.sign, state[s.key])
	}
	return value, api.OK
}

// Node tells which of so many nodes is a query's own: 0 if there are none.
func Node(query string, nodes int) int {
	if nodes < 1 {
		return 0
	}
	sum := 0
	for i := range len(query) {
		sum += int(query[i])
	}
	return sum % nodes
}

// read has the one order in which the errors of a query are told.
func read(query string) ([]step, api.Errno) {
	if len(query) > api.MaxQuery {
		return nil, api.ErrLong
	}
	l, ok := cut(query)
	if !ok {
		return nil, api.ErrQuery
	}
	if len(l) > api.MaxTerms {
		return nil, api.ErrLong
	}
	return l, api.OK
}

// cut gives the steps of a query, or false if it is none. The first term gets
// a plus, so that it needs no case of its own when it is added to 0.
func cut(query string) ([]step, bool) {
	var l []step
	sign := plus
	i := 0
	for i < len(query) {
		key, isLetter := keyOf(query[i])
		if !isLetter {
			return nil, false
		}
		l = append(l, step{sign: sign, key: key})
		i++
		if i == len(query) {
			return l, true
		}
		next, width := signAt(query, i)
		if width == 0 {
			return nil, false
		}
		sign = next
		i += width
	}
	return nil, false
}

func keyOf(letter byte) (int, bool) {
	if letter < 'a' || letter >= 'a'+api.Keys {
		return 0, false
	}
	return int(letter - 'a'), true
}

// signAt gives the sign that begins at byte i, and how many bytes it has: 0 if
// there is no sign.
func signAt(query string, i int) (int, int) {
	if i < 0 || i >= len(query) {
		return plus, 0
	}
	switch query[i] {
	case '+':
		return plus, 1
	case '-':
		return minus, 1
	}
	if query[i] != 0xc3 || i+1 >= len(query) {
		return plus, 0
	}
	// The second bytes of U+00D7 and U+00F7 in UTF-8.
	switch query[i+1] {
	case 0x97:
		return times, 2
	case 0xb7:
		return over, 2
	}
	return plus, 0
}

func apply(a int32, sign int, b int32) int32 {
	switch sign {
	case plus:
		return a + b
	case minus:
		return a - b
	case times:
		return a * b
	}
	if b == 0 {
		return 0
	}
	return a / b
}

// bit is the set that has this key alone.
func bit(key int) uint8 {
	return uint8(1) << uint(key)
}
