package queries

import (
	"math"
	"regexp"
	"strings"
	"testing"

	"almanac/api"
)

func TestParseExamples(t *testing.T) {
	for _, c := range []struct {
		query string
		keys  uint8
		terms int
	}{
		{"a", 1, 1}, {"b", 2, 1}, {"h", 128, 1}, {"a+c×a", 5, 3}, {"a÷b", 3, 2},
		{"a+b-c×d÷e+f-g×h", 255, 8}, {"h÷h÷h÷h÷h÷h÷h÷h", 128, 8},
	} {
		shape, e := Parse(c.query)
		if want := (api.Shape{Keys: c.keys, Terms: c.terms}); shape != want || e != api.OK {
			t.Errorf("P3: Parse(%q) = %+v, %d, want %+v", c.query, shape, e, want)
		}
	}
}

func TestParseErrors(t *testing.T) {
	eight := strings.Repeat("a+", 7) + "a"
	for _, c := range []struct {
		query string
		e     api.Errno
	}{
		{"", api.ErrQuery}, {"+a", api.ErrQuery}, {"a+", api.ErrQuery}, {"ab", api.ErrQuery},
		{"a b", api.ErrQuery}, {"i", api.ErrQuery}, {"`", api.ErrQuery}, {"A", api.ErrQuery},
		{"a*b", api.ErrQuery}, {"a\xd7b", api.ErrQuery}, {"a\xf7b", api.ErrQuery},
		{"a\xc3", api.ErrQuery}, {"a\xc3b", api.ErrQuery}, {"a\xc3\x97", api.ErrQuery},
		{"a\x97b", api.ErrQuery}, {"a\xc3\x97\x97b", api.ErrQuery}, {"\xc3\x97", api.ErrQuery},
		{"a+\x00", api.ErrQuery}, {"\xff", api.ErrQuery}, {"a+b\n", api.ErrQuery},

		{eight, api.OK}, {eight + "+a", api.ErrLong},
		// No query at all, though it has more than eight letters.
		{eight + "+a+", api.ErrQuery}, {eight + "+aa", api.ErrQuery}, {eight + "+a+i", api.ErrQuery},
		{strings.Repeat("a+", 19) + "a", api.ErrLong}, // 39 bytes
		{strings.Repeat("a+", 20), api.ErrQuery},      // 40
		{strings.Repeat("a+", 18) + "a×a", api.ErrLong},
		{strings.Repeat("a+", 20) + "a", api.ErrLong}, // 41
		{strings.Repeat("?", 40), api.ErrQuery}, {strings.Repeat("?", 41), api.ErrLong},
		{strings.Repeat("\xc3", 41), api.ErrLong}, {strings.Repeat("a", 1<<20), api.ErrLong},
	} {
		shape, e := Parse(c.query)
		if e != c.e || e != api.OK && shape != (api.Shape{}) {
			t.Errorf("P3: Parse(%.60q) = %+v, %d, want %d", c.query, shape, e, c.e)
		}
		value, e := Eval(c.query, api.State{3, 3, 3, 3, 3, 3, 3, 3})
		if e != c.e || e != api.OK && value != 0 {
			t.Errorf("P4: Eval(%.60q) = %d, %d, want %d", c.query, value, e, c.e)
		}
	}
}

var isQuery = regexp.MustCompile(`\A[a-h]([+×÷-][a-h])*\z`)

// Every text of up to five of these pieces, broken signs among them.
func TestParseAllShortTexts(t *testing.T) {
	pieces := []string{"a", "h", "i", "+", "×", "÷", "\xc3", "\x97", " "}
	texts := []string{""}
	for range 5 {
		for _, text := range texts {
			checkParse(t, text)
		}
		var longer []string
		for _, text := range texts {
			for _, p := range pieces {
				longer = append(longer, text+p)
			}
		}
		texts = longer
	}
	for _, text := range texts {
		checkParse(t, text)
	}
}

func checkParse(t *testing.T, text string) {
	t.Helper()
	want, wantE := api.Shape{}, api.ErrQuery
	if isQuery.MatchString(text) {
		wantE = api.OK
		for _, r := range text {
			if r >= 'a' && r <= 'h' {
				want.Terms++
				want.Keys |= 1 << (r - 'a')
			}
		}
	}
	if shape, e := Parse(text); shape != want || e != wantE {
		t.Fatalf("P3: Parse(%q) = %+v, %d, want %+v, %d", text, shape, e, want, wantE)
	}
}

func TestParseEveryByte(t *testing.T) {
	for b := range 256 {
		text := string([]byte{byte(b)})
		if _, e := Parse(text); (e == api.OK) != (b >= 'a' && b <= 'h') {
			t.Errorf("P3: Parse(%q) answers %d", text, e)
		}
		between := "a" + text + "b"
		if _, e := Parse(between); (e == api.OK) != (b == '+' || b == '-') {
			t.Errorf("P3: Parse(%q) answers %d", between, e)
		}
		two := "a\xc3" + text + "b"
		if _, e := Parse(two); (e == api.OK) != (b == 0x97 || b == 0xb7) {
			t.Errorf("P3: Parse(%q) answers %d", two, e)
		}
	}
}

func TestEvalExamples(t *testing.T) {
	const least, most = math.MinInt32, math.MaxInt32
	for _, c := range []struct {
		query string
		state api.State
		value int32
	}{
		{"a-b×b", api.State{7, 2, 0}, 10}, {"a÷b", api.State{7, 2, 0}, 3},
		{"a÷c", api.State{7, 2, 0}, 0}, {"c-a÷b", api.State{7, 2, 0}, -3},
		{"a+b", api.State{most, 1}, least}, {"a-b", api.State{least, 1}, most},
		{"a÷b", api.State{least, -1}, least}, {"a×b", api.State{least, -1}, least},
		{"c÷c", api.State{}, 0}, {"a÷c+b", api.State{7, 2}, 2}, {"h", api.State{7: -4}, -4},
		{"a+b×c", api.State{1, 2, 3}, 9}, {"a×b+c", api.State{1, 2, 3}, 5},
		{"a-b-c", api.State{1, 2, 3}, -4}, {"a÷b×b", api.State{7, 2}, 6},
		{"a+a÷b", api.State{most, 2}, -1}, {"a-b+c-d+e-f+g-h", api.State{1, 2, 4, 8, 16, 32, 64, 128}, -85},
	} {
		if value, e := Eval(c.query, c.state); value != c.value || e != api.OK {
			t.Errorf("P4: Eval(%q, %v) = %d, %d, want %d", c.query, c.state, value, e, c.value)
		}
	}
}

// All pairs of telling numbers under each sign, against wider arithmetic.
func TestEvalPairs(t *testing.T) {
	numbers := []int32{0, 1, -1, 2, -2, 3, 7, -7, 46341, -46341, 1 << 16, math.MaxInt32, math.MaxInt32 - 1, math.MinInt32, math.MinInt32 + 1}
	for _, a := range numbers {
		for _, b := range numbers {
			x, y := int64(a), int64(b)
			quotient := int64(0)
			if y != 0 {
				quotient = x / y
			}
			for _, c := range []struct {
				query string
				value int64
			}{{"d+g", x + y}, {"d-g", x - y}, {"d×g", x * y}, {"d÷g", quotient}} {
				value, e := Eval(c.query, api.State{3: a, 6: b})
				if value != int32(c.value) || e != api.OK {
					t.Errorf("P4: Eval(%q) with %d, %d = %d, %d, want %d", c.query, a, b, value, e, int32(c.value))
				}
			}
		}
	}
}

func TestNode(t *testing.T) {
	for _, c := range []struct {
		query string
		two   int // its node of two
		three int
	}{
		{"a", 1, 1}, {"a+b", 0, 1}, {"a×b", 1, 1}, // of the document
		{"b", 0, 2}, {"c", 1, 0}, {"b+a", 0, 1}, {"a-a", 1, 2}, {"a÷b", 1, 0}, {"g×g", 0, 0},
		{strings.Repeat("h÷", 7) + "h", 0, 1}, // 3478: more than a byte holds
		{strings.Repeat("h×", 7) + "h", 0, 2},
	} {
		if one, two, three := Node(c.query, 1), Node(c.query, 2), Node(c.query, 3); one != 0 || two != c.two || three != c.three {
			t.Errorf("P9: the nodes of %q are %d, %d, %d, want 0, %d, %d", c.query, one, two, three, c.two, c.three)
		}
	}
	for _, nodes := range []int{0, -1, -1 << 63} {
		if node := Node("a+b", nodes); node != 0 {
			t.Errorf("P1: of %d nodes the query's is %d", nodes, node)
		}
	}
}
