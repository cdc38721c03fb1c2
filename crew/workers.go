package crew

import (
	"iter"
	"sync"
)

// finding is what a worker came to at a place.
type finding[T any] struct {
	at   int
	what T
}

// inOrder has so many workers solve the places 0 to n - 1 side by side, and gives what they come to in the order of the places, so that nobody sees who was done first. They have ended when it ends, also where it is left early.
func inOrder[T any](n, workers int, solve func(at int) T) iter.Seq2[int, T] {
	return func(yield func(int, T) bool) {
		places, found, end := make(chan int), make(chan finding[T]), make(chan struct{})
		crew := min(n, workers)
		var joined sync.WaitGroup
		joined.Add(crew)
		for range crew {
			go func() {
				defer joined.Done()
				work(solve, places, found, end)
			}()
		}
		lead(n, crew, places, found, yield)
		close(places)
		close(end)
		joined.Wait()
	}
}

// work solves place by place, till there are no more or nobody takes any longer what it finds. What it finds is never lost by chance: the end comes when nobody takes anything any more, so the two are never open to it at once.
func work[T any](solve func(at int) T, places <-chan int, found chan<- finding[T], end <-chan struct{}) {
	for at := range places {
		f := finding[T]{at, solve(at)}
		select {
		case found <- f:
		case <-end:
			return
		}
	}
}

// lead gives a place to each worker of the crew, and the next one only when there is a finding and more is wanted: so a worker is free for each place, and none is begun in vain once yield has enough.
func lead[T any](n, crew int, places chan<- int, found <-chan finding[T], yield func(int, T) bool) {
	given := 0
	for ; given < crew; given++ {
		places <- given
	}
	known, what := make([]bool, n), make([]T, n)
	for next := 0; next < n; {
		f := <-found
		known[f.at], what[f.at] = true, f.what
		for ; next < n && known[next]; next++ {
			if !yield(next, what[next]) {
				return
			}
		}
		if given < n {
			places <- given
			given++
		}
	}
}
