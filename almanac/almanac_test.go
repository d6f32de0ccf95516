package almanac

import (
	"math/rand"
	"reflect"
	"strings"
	"testing"

	"almanac/api"
)

var oddNumbers = []int{-1 << 63, -1 << 32, -101, -1, 0, 1, 2, 3, 5, 6, 7, 8, 12, 199, 200, 256, 100000, 100001, 1 << 32, 1<<63 - 1}

func newWorld(t *testing.T, nodes int, room int) *World {
	t.Helper()
	w, e := New(nodes, room)
	if w == nil || e != api.OK {
		t.Fatalf("P5: New(%d, %d) = %v, %d", nodes, room, w, e)
	}
	return w
}

func commit(t *testing.T, w *World, want api.Stamp, l ...api.Write) {
	t.Helper()
	if stamp, e := w.Commit(l); stamp != want || e != api.OK {
		t.Fatalf("P6: Commit(%v) = %d, %d, want %d", l, stamp, e, want)
	}
}

func tick(t *testing.T, w *World) {
	t.Helper()
	if e := w.Tick(); e != api.OK {
		t.Fatalf("P7: Tick = %d", e)
	}
}

func now(t *testing.T, w *World, stamp api.Stamp, clock int) {
	t.Helper()
	if s, c := w.Now(); s != stamp || c != clock {
		t.Errorf("P7: Now = %d, %d, want %d, %d", s, c, stamp, clock)
	}
}

func begin(t *testing.T, w *World, limit int, want int) {
	t.Helper()
	if number, e := w.Begin(limit); number != want || e != api.OK {
		t.Fatalf("P8: Begin(%d) = %d, %d, want %d", limit, number, e, want)
	}
}

func end(t *testing.T, w *World, reader int, from api.Stamp, to api.Stamp) {
	t.Helper()
	if span, e := w.End(reader); span != (api.Span{From: from, To: to}) || e != api.OK {
		t.Errorf("P8: End(%d) = %+v, %d, want %d to %d", reader, span, e, from, to)
	}
}

func TestParseAndEval(t *testing.T) {
	if shape, e := Parse("a+c×a"); shape != (api.Shape{Keys: 5, Terms: 3}) || e != api.OK {
		t.Errorf("P3: Parse = %+v, %d", shape, e)
	}
	if shape, e := Parse("a+"); shape != (api.Shape{}) || e != api.ErrQuery {
		t.Errorf("P3: Parse = %+v, %d", shape, e)
	}
	if value, e := Eval("c-a÷b", api.State{7, 2}); value != -3 || e != api.OK {
		t.Errorf("P4: Eval = %d, %d", value, e)
	}
	if value, e := Eval(strings.Repeat("a", 41), api.State{7}); value != 0 || e != api.ErrLong {
		t.Errorf("P4: Eval = %d, %d", value, e)
	}
}

func TestNewLimits(t *testing.T) {
	for _, nodes := range oddNumbers {
		for _, room := range oddNumbers {
			want := api.OK
			switch {
			case nodes < 1 || nodes > 3:
				want = api.ErrNodes
			case room < 1 || room > 6:
				want = api.ErrRoom
			}
			if w, e := New(nodes, room); e != want || (w != nil) != (e == api.OK) {
				t.Errorf("P5: New(%d, %d) = %v, %d, want %d", nodes, room, w, e, want)
			}
		}
	}
	now(t, newWorld(t, 3, 6), 0, 0)
}

func TestReadersOfTheDocument(t *testing.T) {
	w := newWorld(t, 2, 3)
	commit(t, w, 1, api.Write{Key: 0, Value: 5})
	now(t, w, 1, 0)
	begin(t, w, 0, 0)
	tick(t, w)
	begin(t, w, 0, 1)
	begin(t, w, 1, 2)
	begin(t, w, 7, 3)
	end(t, w, 0, 0, 1)
	end(t, w, 1, 1, 1)
	end(t, w, 2, 0, 1)
	end(t, w, 3, 0, 1)
}

func TestSpanStaysAsItBegan(t *testing.T) {
	w := newWorld(t, 1, 1)
	begin(t, w, 0, 0)
	commit(t, w, 1)
	tick(t, w)
	commit(t, w, 2)
	begin(t, w, 0, 1)
	end(t, w, 0, 0, 0)
	end(t, w, 1, 1, 2)
}

func TestBeginErrors(t *testing.T) {
	w := newWorld(t, 1, 1)
	for _, limit := range []int{-1, api.MaxClock + 1, -1 << 63, 1<<63 - 1} {
		if number, e := w.Begin(limit); number != 0 || e != api.ErrArg {
			t.Errorf("P8: Begin(%d) = %d, %d, want ErrArg", limit, number, e)
		}
	}
	begin(t, w, api.MaxClock, 0)
	for i := 1; i < api.MaxReaders; i++ {
		begin(t, w, 0, i)
	}
	if number, e := w.Begin(0); number != 0 || e != api.ErrMany {
		t.Errorf("P8: Begin of a seventh reader = %d, %d", number, e)
	}
	if number, e := w.Begin(-1); number != 0 || e != api.ErrArg {
		t.Errorf("P8: Begin(-1) of a seventh reader = %d, %d", number, e)
	}
}

func TestEndErrors(t *testing.T) {
	w := newWorld(t, 1, 1)
	begin(t, w, 0, 0)
	begin(t, w, 0, 1)
	end(t, w, 0, 0, 0)
	for _, reader := range oddNumbers {
		if reader == 1 {
			continue
		}
		if span, e := w.End(reader); span != (api.Span{}) || e != api.ErrReader {
			t.Errorf("P8: End(%d) = %+v, %d, want ErrReader", reader, span, e)
		}
	}
	end(t, w, 1, 0, 0)
}

func TestClockAtItsEnd(t *testing.T) {
	w := newWorld(t, 1, 1)
	commit(t, w, 1)
	tick(t, w)
	commit(t, w, 2)
	for range api.MaxClock - 1 {
		tick(t, w)
	}
	if e := w.Tick(); e != api.ErrFull {
		t.Errorf("P7: Tick = %d, want ErrFull", e)
	}
	now(t, w, 2, api.MaxClock)
	begin(t, w, api.MaxClock, 0)
	begin(t, w, api.MaxClock-1, 1)
	begin(t, w, api.MaxClock-2, 2)
	end(t, w, 0, 0, 2)
	end(t, w, 1, 1, 2)
	end(t, w, 2, 2, 2)
}

// leastNewest is P8's first stamp by the words of the document: commits has the
// tick of each stamp, stamp 0 among them.
func leastNewest(commits []int, clock int, limit int) api.Stamp {
	for stamp := range commits {
		till := clock
		if stamp+1 < len(commits) {
			till = commits[stamp+1]
		}
		for tick := commits[stamp]; tick <= till; tick++ {
			if tick >= max(0, clock-limit) {
				return api.Stamp(stamp)
			}
		}
	}
	return api.Stamp(len(commits) - 1)
}

func TestSpansByTheWords(t *testing.T) {
	for seed := range 40 {
		r := rand.New(rand.NewSource(int64(seed)))
		w := newWorld(t, 1, 1)
		commits := []int{0}
		clock := 0
		begun := 0
		for range 60 {
			switch r.Intn(3) {
			case 0:
				commit(t, w, api.Stamp(len(commits)))
				commits = append(commits, clock)
			case 1:
				tick(t, w)
				clock++
			default:
				limit := r.Intn(clock + 3)
				begin(t, w, limit, begun)
				end(t, w, begun, leastNewest(commits, clock, limit), api.Stamp(len(commits)-1))
				begun++
			}
		}
		now(t, w, api.Stamp(len(commits)-1), clock)
	}
}

// wrongCalls are calls that are refused in a world with the readers 0 to 5.
func wrongCalls(t *testing.T, w *World) {
	t.Helper()
	for _, l := range [][]api.Write{make([]api.Write, 9), {{Key: 0, Value: 8}, {Key: 8}}, {{Key: -1}}} {
		if stamp, e := w.Commit(l); stamp != 0 || e == api.OK {
			t.Errorf("P1: Commit(%v) = %d, %d", l, stamp, e)
		}
	}
	for _, limit := range []int{-1, 0, 5, api.MaxClock, api.MaxClock + 1} {
		if number, e := w.Begin(limit); number != 0 || e == api.OK {
			t.Errorf("P1: Begin(%d) = %d, %d", limit, number, e)
		}
	}
	for _, reader := range []int{-1, 6, 200} {
		if span, e := w.End(reader); span != (api.Span{}) || e == api.OK {
			t.Errorf("P1: End(%d) = %+v, %d", reader, span, e)
		}
		noRead(t, w, reader, "a", api.ErrReader)
	}
	noRead(t, w, 0, "a+", api.ErrQuery)
	noRead(t, w, 1, strings.Repeat("a", 41), api.ErrLong)
	for _, i := range []int{-1, 2, 10} {
		noDrop(t, w, i)
		noStore(t, w, i)
		noEvict(t, w, i, 0, api.ErrNode)
		noEvict(t, w, 0, i, api.ErrArg)
		noLook(t, w, i)
		noFlight(t, w, i)
		noMessage(t, w, i, 0, api.ErrNode)
		noMessage(t, w, 0, i, api.ErrArg)
		noAsk(t, w, i)
		noRestart(t, w, i)
	}
	for i := range api.MaxFlight {
		if e := w.Copy(1, i); e != api.ErrFull {
			t.Errorf("P1: Copy(1, %d) = %d", i, e)
		}
	}
}

func TestErrorsLeaveTheWorldAsItWas(t *testing.T) {
	w := newWorld(t, 2, 2)
	twin := newWorld(t, 2, 2)
	for _, x := range []*World{w, twin} {
		commit(t, x, 1, api.Write{Key: 0, Value: 3})
		tick(t, x)
		for i := range api.MaxReaders {
			begin(t, x, i%2, i)
		}
		read(t, x, 1, "b", 0)
		read(t, x, 1, "d", 0)
		read(t, x, 5, "a", 3)
		storePut(t, x, 1)
		for range api.MaxFlight - 1 {
			copyOf(t, x, 1, 0)
		}
	}
	wrongCalls(t, w)
	if !reflect.DeepEqual(w, twin) {
		t.Error("P1: calls that were refused changed the world")
	}
	now(t, w, 1, 1)
	commit(t, w, 2)
	end(t, w, 0, 1, 1)
	end(t, w, 1, 0, 1)
	end(t, w, 5, 1, 1)
	begin(t, w, 0, 6)
	putsAre(t, w, api.Entry{Query: "b", Open: true, Known: 1}, api.Entry{Query: "a", Value: 3, From: 1, Open: true, Known: 1})
	nodeIs(t, w, 0, api.Entry{Query: "d", Open: true, Known: 1})
	nodeIs(t, w, 1)
}

func TestWorldsAreApart(t *testing.T) {
	w := newWorld(t, 1, 1)
	other := newWorld(t, 1, 1)
	commit(t, w, 1, api.Write{Key: 0, Value: 3})
	tick(t, w)
	begin(t, w, 0, 0)
	read(t, w, 0, "a", 3)
	now(t, other, 0, 0)
	putsAre(t, other)
	noRead(t, other, 0, "a", api.ErrReader)
	if _, e := other.End(0); e != api.ErrReader {
		t.Errorf("P2: a reader of another world ends: %d", e)
	}
	begin(t, other, 0, 0)
	commit(t, other, 1)
	now(t, newWorld(t, 1, 1), 0, 0)
	end(t, w, 0, 1, 1)
	end(t, other, 0, 0, 0)
}

func TestCommitLeavesItsListAlone(t *testing.T) {
	w := newWorld(t, 1, 1)
	whole := make([]api.Write, 12)
	for i := range whole {
		whole[i] = api.Write{Key: i, Value: int32(i)}
	}
	want := append([]api.Write(nil), whole...)
	for n := range whole {
		w.Commit(whole[:n])
	}
	if !reflect.DeepEqual(whole, want) {
		t.Errorf("P2: Commit wrote into its list: %v", whole)
	}
}

// Every call, at odd numbers, texts and lists, in worlds of every size.
func TestNoCallPanics(t *testing.T) {
	texts := []string{"", "a", "a+b", "×", "a\xc3", "\xff\xfe", strings.Repeat("a×", 13), strings.Repeat("h", 40), strings.Repeat("é", 5000)}
	for nodes := 1; nodes <= api.MaxNodes; nodes++ {
		w := newWorld(t, nodes, 1+nodes)
		begin(t, w, 0, 0)
		for _, a := range oddNumbers {
			for _, q := range texts {
				Parse(q)
				Eval(q, api.State{int32(a)})
				w.Read(a, q)
			}
			callAll(w, a)
		}
	}
}

func callAll(w *World, a int) {
	w.Commit([]api.Write{{Key: a, Value: int32(a)}})
	w.Commit(nil)
	w.Tick()
	w.Now()
	w.Begin(a)
	w.End(a)
	w.Puts()
	w.Store(a)
	w.Drop(a)
	w.Look(a)
	w.Flight(a)
	w.Ask(a)
	w.Restart(a)
	for _, b := range oddNumbers {
		w.Evict(a, b)
		w.Deliver(a, b)
		w.Lose(a, b)
		w.Copy(a, b)
	}
}
