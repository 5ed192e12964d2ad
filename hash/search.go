package hash

import (
	"slices"
	"sync"
)

const (
	tries   = 1 << 16 // seeds that are tried for a group: the last key of MaxKeys, with one place free, misses them all about once in nine million times
	workers = 4
	stride  = 32 // seeds that a worker tries between two looks at the channels
)

// search is what workers share that look for a seed: none of them changes it.
type search struct {
	keys  []uint64
	taken []bool
	told  chan report
	off   chan struct{} // closed when no more is needed
}

// report is what a worker tells: no seed of its share below this one fits, and whether this one does.
type report struct {
	worker int
	seed   uint32
	fits   bool
}

// leastSeed is the least seed that sends all of these keys to places of their own that are not taken, if there is one.
func leastSeed(keys []uint64, taken []bool) (uint32, bool) {
	s := search{keys: keys, taken: taken, told: make(chan report), off: make(chan struct{})}
	var all sync.WaitGroup
	for worker := range workers {
		all.Add(1)
		go func() {
			defer all.Done()
			s.look(worker)
		}()
	}
	seed := s.hear()
	close(s.off)
	all.Wait()
	return seed, seed < tries
}

// look tries the seeds of a worker's share, the least one first: each workers-th, from its own number on.
func (s *search) look(worker int) {
	for seed := uint32(worker); seed < tries; {
		var fits bool
		seed, fits = s.step(seed)
		select {
		case s.told <- report{worker, seed, fits}:
			if fits {
				return
			}
		case <-s.off:
			return
		}
	}
}

// step goes from a seed on to the first one of the share that fits, but by no more than a stride.
func (s *search) step(seed uint32) (uint32, bool) {
	spots := make([]int, 0, len(s.keys))
	for range stride {
		if s.fits(seed, spots) {
			return seed, true
		}
		seed += workers
	}
	return seed, false
}

// fits tells whether a seed sends all keys to places of their own that are not taken. The list lends its room alone.
func (s *search) fits(seed uint32, spots []int) bool {
	for _, key := range s.keys {
		at := spot(seed, key, len(s.taken))
		if s.taken[at] || slices.Contains(spots, at) {
			return false
		}
		spots = append(spots, at)
	}
	return true
}

// hear listens till no worker has a seed left that is below the least one found: so it does not matter who tells first. It is tries, if none fits.
func (s *search) hear() uint32 {
	least := uint32(tries)
	var reached [workers]uint32
	for slices.Min(reached[:]) < least {
		r := <-s.told
		reached[r.worker] = r.seed
		if r.fits {
			least = min(least, r.seed)
		}
	}
	return least
}
