package r16

// stack is frames, one behind the other. Only words that were written take memory.
type stack struct {
	words     map[int]int // by their numbers
	size      int
	base, top int // of the newest frame the first word, and the one behind its last
	frames    int
}

// The words of a frame that stand there from its beginning, and that no instruction sets.
const (
	wordBack   = 0 // the instruction at which the activation that called goes on
	wordCaller = 1 // the first word of that one's frame
)

// nowhere stands in both words of the first frame, which nobody called.
const nowhere = -1

func newStack(size int) stack { return stack{words: map[int]int{}, size: size, base: nowhere} }

// get is a word of the newest frame.
func (s *stack) get(word int) int { return s.words[s.base+word] }

// set writes a word of the newest frame.
func (s *stack) set(word, number int) { s.words[s.base+word] = number }

// push begins a frame of so many words; false: there are fewer left. Its other words are what they were.
func (s *stack) push(size, back int) bool {
	if size > s.size-s.top {
		return false
	}
	caller := s.base
	s.base, s.top = s.top, s.top+size
	s.set(wordBack, back)
	s.set(wordCaller, caller)
	s.frames++
	return true
}

// pop ends the newest frame, and tells the instruction at which the one that called goes on; false: nobody called. The frame that called ends where this one begins.
func (s *stack) pop() (int, bool) {
	back, caller := s.get(wordBack), s.get(wordCaller)
	s.base, s.top = caller, s.base
	s.frames--
	return back, caller != nowhere
}
