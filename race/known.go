package race

import (
	"deadlatch/api"
	"deadlatch/clock"
)

// spread is how far what was done is known. A thread's acts are numbered from 1 on, and who knows one knows those ahead of it.
type spread struct {
	now   [api.MaxThreads]clock.Clock // what each thread knows
	given map[int]clock.Clock         // what was given, by place
}

// begin answers that nothing is known.
func begin() spread { return spread{given: map[int]clock.Clock{}} }

// do has an act done, and answers what is known at it, the act itself too.
func (s *spread) do(x Act) clock.Clock {
	if !Right(x) {
		return clock.Clock{}
	}
	c := s.now[x.Who].Tick(x.Who)
	switch x.Kind {
	case Give:
		s.given[x.At] = s.given[x.At].Join(c)
	case Take:
		c = c.Join(s.given[x.At])
	}
	s.now[x.Who] = c
	return c
}
