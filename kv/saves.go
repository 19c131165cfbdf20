package kv

// A Put takes a save of the Store's for itself, to go back to if there is no room. None of these is to be seen: the Base numbers those that it was asked for by itself.

const noSave = 0 // none of the Store's

// saves is those of the open transaction that the Base was asked for.
type saves struct {
	at  []int // the Store's saves of the numbers from 1 on; if the Store has gone back behind one, it knows
	top int   // the last one that the Store told, the Puts' own too
}

// met: the Store told that save. Its numbers rise within a transaction: if this one does not, another transaction was begun, at the Store itself.
func (s *saves) met(at int) {
	if at <= s.top {
		*s = saves{}
	}
	s.top = at
}

// add: the number for the Store's save.
func (s *saves) add(at int) int {
	s.at = append(s.at, at)
	return len(s.at)
}

// find: the Store's save of that number; noSave, if there is none.
func (s *saves) find(no int) int {
	if no < 1 || no > len(s.at) {
		return noSave
	}
	return s.at[no-1]
}
