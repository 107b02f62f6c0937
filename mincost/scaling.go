package mincost

// scaling meets the supplies somehow, as no cost matters at first, and makes the amounts better by potentials that are more and more exact.
type scaling struct{ *net }

func (s *scaling) meet() {
	for slack := range halves(wide) {
		s.refine(slack)
	}
}
