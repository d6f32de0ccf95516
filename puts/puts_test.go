package puts

import (
	"reflect"
	"strings"
	"testing"

	"almanac/api"
)

func putOf(query string) api.Entry {
	return api.Entry{Query: query, Value: int32(query[0]), From: 3, Till: 9, Known: 12}
}

func filled(names string) *Puts {
	var p Puts
	for _, name := range strings.Split(names, "") {
		p.Join(putOf(name))
	}
	return &p
}

func listIs(t *testing.T, p *Puts, names string) {
	t.Helper()
	var want []api.Entry
	for _, name := range strings.Split(names, "") {
		want = append(want, putOf(name))
	}
	if l := p.List(); len(l) != len(want) || len(l) > 0 && !reflect.DeepEqual(l, want) {
		t.Errorf("P11: the puts are %v, want %v", l, want)
	}
}

func TestJoinBehindTheOthers(t *testing.T) {
	listIs(t, &Puts{}, "")
	listIs(t, filled("b"), "b")
	listIs(t, filled("bab"), "bab")
}

func TestJoinUpToMaxPuts(t *testing.T) {
	p := filled("abcdefghijk")
	listIs(t, p, "abcdefghij")
	p.Take(4)
	p.Join(putOf("x"))
	p.Join(putOf("y"))
	listIs(t, p, "abcdfghijx")
}

func TestTakeEach(t *testing.T) {
	for i, rest := range []string{"bcd", "acd", "abd", "abc"} {
		p := filled("abcd")
		want := putOf("abcd"[i : i+1])
		if put, e := p.Take(i); put != want || e != api.OK {
			t.Errorf("P11: Take(%d) = %v, %d, want %v", i, put, e, want)
		}
		listIs(t, p, rest)
	}
}

func TestTakeTillNoneIsLeft(t *testing.T) {
	p := filled("ab")
	p.Take(1)
	p.Take(0)
	listIs(t, p, "")
	if _, e := p.Take(0); e != api.ErrArg {
		t.Errorf("P11: Take(0) of no puts = %d", e)
	}
	p.Join(putOf("c"))
	listIs(t, p, "c")
}

func TestTakeErrors(t *testing.T) {
	p := filled("abc")
	for _, i := range []int{-1, 3, 4, 1 << 32, -1 << 63, 1<<63 - 1} {
		if put, e := p.Take(i); put != (api.Entry{}) || e != api.ErrArg {
			t.Errorf("P11: Take(%d) = %v, %d, want ErrArg", i, put, e)
		}
		listIs(t, p, "abc")
	}
}

func TestListsAreTheCallers(t *testing.T) {
	p := filled("abc")
	first := p.List()
	second := p.List()
	for i := range first[:cap(first)] {
		first[:cap(first)][i] = putOf("z")
	}
	p.Take(0)
	p.Join(putOf("d"))
	p.Join(putOf("e"))
	listIs(t, p, "bcde")
	if want := filled("abc").List(); !reflect.DeepEqual(second, want) {
		t.Errorf("P2: a list changed when it was told already: %v", second)
	}
}
