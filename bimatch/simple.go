package bimatch

// simple matches one node of the left side after the other. One that can't be matched in its turn never can be.
type simple struct{ *pairs }

func (s *simple) fill() {
	for v := range s.at {
		s.place(v, make([]bool, len(s.by)))
	}
}

// place matches v, for which others may have to be matched anew: could that be? Nodes of the right side that were asked for in vain aren't asked for again.
func (s *simple) place(v int, asked []bool) bool {
	for _, i := range s.at[v] {
		far := s.far[i]
		if asked[far] {
			continue
		}
		asked[far] = true
		if s.free(far) || s.place(s.mate(far), asked) {
			s.take(i)
			return true
		}
	}
	return false
}
