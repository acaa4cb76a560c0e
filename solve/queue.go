package solve

import "container/heap"

const (
	// firstWeight is what the first conflict weighs; each one weighs more than the one ahead of it.
	firstWeight = 1 << 10
	// lastWeight is when all weights are made less.
	lastWeight = 1 << 50
	lessBy     = 40
	growth     = 16
)

// queue is a heap of variables: those that were in conflicts last come first.
type queue struct {
	all []int
	// place is where a variable stands in all; -1, if it does not.
	place  []int
	weight []int
	// now is what a conflict weighs now.
	now int
}

func newQueue(vars int) *queue {
	q := &queue{place: make([]int, vars+1), weight: make([]int, vars+1), now: firstWeight}
	for n := 1; n <= vars; n++ {
		q.place[n] = len(q.all)
		q.all = append(q.all, n)
	}
	return q
}

func (q *queue) Len() int { return len(q.all) }

func (q *queue) Less(i, j int) bool {
	a, b := q.all[i], q.all[j]
	if q.weight[a] != q.weight[b] {
		return q.weight[a] > q.weight[b]
	}
	return a < b
}

func (q *queue) Swap(i, j int) {
	q.all[i], q.all[j] = q.all[j], q.all[i]
	q.place[q.all[i]], q.place[q.all[j]] = i, j
}

// Push is for the library's heap.
func (q *queue) Push(x any) {
	n := x.(int)
	q.place[n] = len(q.all)
	q.all = append(q.all, n)
}

// Pop is for the library's heap.
func (q *queue) Pop() any {
	n := q.all[len(q.all)-1]
	q.all = q.all[:len(q.all)-1]
	q.place[n] = -1
	return n
}

// take takes the first variable.
func (q *queue) take() int { return heap.Pop(q).(int) }

// put puts a variable back, if it is not there.
func (q *queue) put(n int) {
	if q.place[n] < 0 {
		heap.Push(q, n)
	}
}

// raise tells that a variable is in a conflict.
func (q *queue) raise(n int) {
	q.weight[n] += q.now
	if q.place[n] >= 0 {
		heap.Fix(q, q.place[n])
	}
}

// grow lets the next conflict weigh more.
func (q *queue) grow() {
	q.now += q.now / growth
	if q.now < lastWeight {
		return
	}
	q.now >>= lessBy
	for n := range q.weight {
		q.weight[n] >>= lessBy
	}
	heap.Init(q)
}
