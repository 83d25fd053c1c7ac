package emit

import "quern/api"

// own is how many words of a frame the machine uses itself, ahead of all others.
const own = 2

// frame tells which word of an activation's frame is whose: those of saved registers stand ahead of those of slots.
type frame struct {
	saved [api.Allocated]int // the word of each register that some call saves
	slots int                // the word of the first slot
	size  int
}

func frameOf(f api.AFunc) frame {
	made := frame{slots: own}
	for register, is := range savedIn(f) {
		if is {
			made.saved[register] = made.slots
			made.slots++
		}
	}
	made.size = made.slots + f.Slots
	return made
}

// savedIn tells of each register whether some call saves it.
func savedIn(f api.AFunc) (saved [api.Allocated]bool) {
	for _, b := range f.Blocks {
		for _, x := range b.Body {
			for _, register := range x.Saves {
				saved[register] = true
			}
		}
	}
	return saved
}

func (f frame) slot(place api.Loc) int { return f.slots + place.N }
