package timers

// timer is a key and when it is due.
type timer struct {
	key string
	due int64
}

// queue is a heap of timers, the one that comes first at its top. Its methods are those that container/heap asks for.
type queue struct {
	list []timer
	// places is where in the list each key's timer stands, so that it needn't be looked for.
	places map[string]int
}

// Len answers how many timers there are.
func (q *queue) Len() int {
	return len(q.list)
}

// Less tells if the timer at place a comes ahead of the one at b; no two have one key, so one of both does.
func (q *queue) Less(a, b int) bool {
	if q.list[a].due != q.list[b].due {
		return q.list[a].due < q.list[b].due
	}
	return q.list[a].key < q.list[b].key
}

// Swap has two timers stand at each other's places.
func (q *queue) Swap(a, b int) {
	q.list[a], q.list[b] = q.list[b], q.list[a]
	q.places[q.list[a].key] = a
	q.places[q.list[b].key] = b
}

// Push lays a timer behind the others.
func (q *queue) Push(x any) {
	t, ok := x.(timer)
	if !ok {
		return
	}
	if q.places == nil {
		q.places = make(map[string]int)
	}
	q.places[t.key] = len(q.list)
	q.list = append(q.list, t)
}

// Pop takes the last timer away, and answers it.
func (q *queue) Pop() any {
	last := len(q.list) - 1
	t := q.list[last]
	// Its place is made zero, because it would keep the key in the list's spare room.
	q.list[last] = timer{}
	q.list = q.list[:last]
	delete(q.places, t.key)
	return t
}
