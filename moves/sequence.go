package moves

import "quern/api"

// sequence: moves, some of which have been put one behind the other.
type sequence struct {
	moves   []api.Move
	left    []bool          // by the moves' numbers
	setters map[api.Loc]int // the number of the move that sets a place
	readers map[api.Loc]int // how many moves that are left read a place
	out     []api.Move
}

func sequenceOf(l []api.Move, setters map[api.Loc]int) *sequence {
	s := &sequence{moves: l, left: make([]bool, len(l)), setters: setters, readers: make(map[api.Loc]int, len(l))}
	for i, m := range l {
		if m.From != m.To {
			s.left[i] = true
			s.readers[m.From]++
		}
	}
	return s
}

// free tells whether a move is left whose To may be written over.
func (s *sequence) free(i int) bool { return s.left[i] && s.readers[s.moves[i].To] == 0 }

// put puts a move, that reads where its number is found by now.
func (s *sequence) put(i int, from api.Loc) {
	s.out = append(s.out, api.Move{To: s.moves[i].To, From: from})
	s.left[i] = false
	s.readers[s.moves[i].From]--
}

// chains puts the moves that need no temporary. A put frees one move at most, the one that sets what was read. So ahead of the move at hand none is free but the one that was freed just now, and no other must be asked to find the first; one that stands further behind is met later.
func (s *sequence) chains() {
	for first := range s.moves {
		at := first
	chain:
		for s.free(at) {
			from := s.moves[at].From
			s.put(at, from)
			switch setter, set := s.setters[from]; {
			case set && setter < first:
				at = setter
			default:
				break chain
			}
		}
	}
}

// circles puts the moves that chains has left. Each place that one of them sets is read by just one: so they go round in circles, and once the temporary holds what a circle's first move reads, they follow from one setter to the next, each the only one that is free.
func (s *sequence) circles(temp api.Loc) {
	for first, m := range s.moves {
		if !s.left[first] {
			continue
		}
		s.out = append(s.out, api.Move{To: temp, From: m.From})
		for at := s.setters[m.From]; at != first; at = s.setters[s.moves[at].From] {
			s.put(at, s.moves[at].From)
		}
		s.put(first, temp)
	}
}
