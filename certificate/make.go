package certificate

import (
	"commutator/api"
	"commutator/diagram"
	"commutator/dyadic"
	"commutator/ranges"
	"commutator/scales"
)

const (
	maxRounds   = 16
	errorRounds = 64 // with errors as they are, and as many with powers of two
	fineDen     = 62 // errors are multiples of 2^-fineDen
	limitExp    = 40 // beyond 2^limitExp an error counts as unbounded
)

// Make tries to make a certificate that Verify accepts.
func Make(d api.Diagram, rounds int) (api.Cert, bool, error) {
	order, err := diagram.Order(d)
	if err != nil {
		return api.Cert{}, false, err
	}
	delays, err := diagram.Delays(d)
	if err != nil {
		return api.Cert{}, false, err
	}
	if rounds < 1 || rounds > maxRounds {
		return api.Cert{}, false, api.ErrRange
	}
	signals, ok := describe(d, rounds)
	s := search{claim{d, signals}, order, delays}
	for ; ok; ok = s.coarsen() {
		if s.findErrors() && s.isAccepted() {
			return s.Cert, true, nil
		}
	}
	return api.Cert{}, false, nil
}

// describe returns a certificate with ranges and scales, but without errors, or false if there are none.
func describe(d api.Diagram, rounds int) (api.Cert, bool) {
	inv, err := ranges.Infer(d, rounds)
	if err != nil {
		return api.Cert{}, false
	}
	list, err := ranges.Eval(d, inv)
	if err != nil {
		return api.Cert{}, false
	}
	f, err := scales.Choose(d, list)
	return api.Cert{Frac: f, Range: list}, err == nil
}

// search is a certificate in the making, with the order and the delays of its diagram.
type search struct {
	claim
	order, delays []int
}

// coarsen takes a fraction bit from all scales, as far as they have one, and reports whether there was one.
func (s search) coarsen() bool {
	taken := false
	for i, f := range s.Frac {
		if f > 0 {
			s.Frac[i]--
			taken = true
		}
	}
	return taken
}

// findErrors looks for errors that are bounds for the scales, and reports whether it has found them.
func (s *search) findErrors() bool {
	s.Err = make([]api.Dyadic, len(s.Blocks))
	for done := range 2 * errorRounds {
		changed, bounded := s.round(done >= errorRounds)
		if !changed || !bounded {
			return bounded
		}
	}
	return false
}

// round makes the errors those that follow from what they are, and reports whether one of a delay has changed and whether all are
// bounded. No error gets less from round to round; so it stops at the first one that is unbounded, as lengths may double from block to
// block.
func (s search) round(coarse bool) (changed, bounded bool) {
	for _, i := range s.order {
		s.Err[i] = s.fineBound(i)
		if isUnbounded(s.Err[i]) {
			return changed, false
		}
	}
	for _, i := range s.delays {
		next := s.fineBound(i)
		if dyadic.Cmp(next, s.Err[i]) <= 0 {
			continue
		}
		if coarse {
			next = powerAbove(next)
		}
		s.Err[i] = next
		changed = true
		if isUnbounded(next) {
			return changed, false
		}
	}
	return changed, true
}

// fineBound returns the bound of block i, rounded up.
func (s search) fineBound(i int) api.Dyadic {
	// The grid is permitted, so there is no error.
	x, _ := dyadic.Ceil(s.bound(i), fineDen)
	return x
}

func (s search) isAccepted() bool {
	is, _, err := Verify(s.Diagram, s.Cert)
	return is && err == nil
}

// powerAbove returns the least power of two that is not below x, which is above 0.
func powerAbove(x api.Dyadic) api.Dyadic {
	// x is at least this power and less than the next one.
	exp := dyadic.Bits(x) - 1 - x.Den
	if dyadic.Cmp(power(exp), x) < 0 {
		exp++
	}
	return power(exp)
}

func isUnbounded(x api.Dyadic) bool {
	return dyadic.Cmp(x, power(limitExp)) > 0
}
