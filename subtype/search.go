package subtype

import "slices"

// search decides judgments. Each judgment that it meets is assumed to hold by the first rule whose judgments are not known to be false; when one of these turns out to be false, the next rule is tried, and behind the last one the judgment is false itself. What is still assumed when nothing is left to do holds: it is reduced to judgments that are assumed too.
type search struct {
	rules   [5]rule
	decided map[judgment]*state
	waiting []judgment // they need a rule
}

// state is what is known of a judgment.
type state struct {
	rule  int    // the index of the rule by which it is assumed; behind the last one: it is false
	users []user // what is assumed because of it
}

// user is a judgment that was assumed by the rule with an index.
type user struct {
	judgment judgment
	rule     int
}

func newSearch(w *world) *search {
	return &search{rules: rules(w), decided: map[judgment]*state{}}
}

// holds reports whether a judgment holds.
func (s *search) holds(j judgment) bool {
	s.stateOf(j)
	for len(s.waiting) > 0 && !s.fails(j) {
		last := len(s.waiting) - 1
		next := s.waiting[last]
		s.waiting = s.waiting[:last]
		s.justify(next)
	}
	return !s.fails(j)
}

// stateOf returns the state of a judgment, which may be new.
func (s *search) stateOf(j judgment) *state {
	known, ok := s.decided[j]
	if !ok {
		known = &state{}
		s.decided[j] = known
		s.waiting = append(s.waiting, j)
	}
	return known
}

// fails reports whether a judgment is known to be false.
func (s *search) fails(j judgment) bool {
	known, ok := s.decided[j]
	return ok && known.rule == len(s.rules)
}

// justify finds the next rule by which a judgment can be assumed.
func (s *search) justify(j judgment) {
	own := s.stateOf(j)
	for ; own.rule < len(s.rules); own.rule++ {
		needed, applies := s.rules[own.rule](j)
		if applies && !slices.ContainsFunc(needed, s.fails) {
			for _, other := range needed {
				used := s.stateOf(other)
				used.users = append(used.users, user{j, own.rule})
			}
			return
		}
	}
	for _, u := range own.users {
		// A user may have another rule by now, which does not need this judgment.
		if other := s.stateOf(u.judgment); other.rule == u.rule {
			other.rule++
			s.waiting = append(s.waiting, u.judgment)
		}
	}
}
