package tribunal

import (
	"slices"

	"patrol/api"
)

// queue is things in the order in which they came.
type queue[T any] struct{ list []T }

// isIndex reports whether an integer is the index of a thing.
func (q *queue[T]) isIndex(n int) bool { return isIn(n, 0, len(q.list)-1) }

// add adds a thing behind the others.
func (q *queue[T]) add(x T) { q.list = append(q.list, x) }

// remove removes the thing with an index, and returns it.
func (q *queue[T]) remove(n int) T {
	x := q.list[n]
	q.list = slices.Delete(q.list, n, n+1)
	return x
}

// letter is facts on their way from an office to another one, by their numbers. Letters are never changed, so that equal ones may share their facts.
type letter struct {
	from, to int
	facts    []api.Fact
}

// post is the letters that are on their way.
type post struct{ queue[letter] }

// isFull reports whether no letter more can be posted.
func (p *post) isFull() bool { return len(p.list) >= api.MaxPost }

// double adds a letter that is equal to the one with an index.
func (p *post) double(n int) api.Errno {
	if p.isFull() {
		return api.ErrLimit
	}
	p.add(p.list[n])
	return api.OK
}

// lose removes the letter with an index.
func (p *post) lose(n int) api.Errno {
	p.remove(n)
	return api.OK
}
