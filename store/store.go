// Package store keeps what the commits made and wrote, and the clock (P6, P7).
package store

import "almanac/api"

type commit struct {
	state api.State
	keys  uint8 // the keys it wrote
	tick  int
}

// Store is a past; the zero Store is a new one, at stamp 0 and tick 0.
type Store struct {
	clock   int
	commits []commit // commits[i] made the state with the stamp i+1
}

// Newest tells the stamp of the last commit.
func (s *Store) Newest() api.Stamp {
	return api.Stamp(len(s.commits))
}

// Clock tells the tick.
func (s *Store) Clock() int {
	return s.clock
}

// At tells the state with a stamp; all values are 0 if there is none.
func (s *Store) At(t api.Stamp) api.State {
	if t == 0 || t > s.Newest() {
		return api.State{}
	}
	return s.commits[t-1].state
}

// Wrote tells the keys that the commit with a stamp wrote; none if there is no such
// commit.
func (s *Store) Wrote(t api.Stamp) uint8 {
	if t == 0 || t > s.Newest() {
		return 0
	}
	return s.commits[t-1].keys
}

// Commit writes, and tells the new stamp.
func (s *Store) Commit(l []api.Write) (api.Stamp, api.Errno) {
	if len(l) > api.MaxWrites {
		return 0, api.ErrLong
	}
	newest := s.Newest()
	state, keys, ok := written(s.At(newest), l)
	if !ok {
		return 0, api.ErrKey
	}
	if newest >= api.MaxStamp {
		return 0, api.ErrFull
	}
	s.commits = append(s.commits, commit{state: state, keys: keys, tick: s.clock})
	return newest + 1, api.OK
}

// Tick lets the clock go on.
func (s *Store) Tick() api.Errno {
	if s.clock >= api.MaxClock {
		return api.ErrFull
	}
	s.clock++
	return api.OK
}

// Since tells the least stamp whose state was newest at this tick or later.
func (s *Store) Since(tick int) api.Stamp {
	for i, c := range s.commits {
		// Stamp i is newest up to the tick of the commit behind it, which is
		// commits[i]; that tick counts too.
		if c.tick >= tick {
			return api.Stamp(i)
		}
	}
	return s.Newest()
}

// Right tells from which stamp on, and till ahead of which one, an answer at the
// stamp t that hangs on these keys is right (P10). The second is 0 if there is
// none yet; else it is above t, and so never 0.
func (s *Store) Right(keys uint8, t api.Stamp) (api.Stamp, api.Stamp) {
	from := api.Stamp(0)
	for i, c := range s.commits {
		if c.keys&keys == 0 {
			continue
		}
		stamp := api.Stamp(i + 1)
		if stamp > t {
			return from, stamp
		}
		from = stamp
	}
	return from, 0
}

// written gives the state with the writes done one after the other, and the keys
// that they wrote, or false if one of them has no key.
func written(state api.State, l []api.Write) (api.State, uint8, bool) {
	keys := uint8(0)
	for _, x := range l {
		if x.Key < 0 || x.Key >= api.Keys {
			return api.State{}, 0, false
		}
		state[x.Key] = x.Value
		// A value that was there already is written too.
		keys |= uint8(1) << uint(x.Key)
	}
	return state, keys, true
}
