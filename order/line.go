package order

import (
	"container/heap"
	"iter"

	"patchbay/api"
)

// ready is a heap of places of gates that may come, the least one on top.
type ready []int

func (r ready) Len() int           { return len(r) }
func (r ready) Less(i, j int) bool { return r[i] < r[j] }
func (r ready) Swap(i, j int)      { r[i], r[j] = r[j], r[i] }

// Push is for the library's heap.
func (r *ready) Push(x any) { *r = append(*r, x.(int)) }

// Pop is for the library's heap.
func (r *ready) Pop() any {
	last := (*r)[len(*r)-1]
	*r = (*r)[:len(*r)-1]
	return last
}

// line is the gates on their way.
type line struct {
	ready ready
	// waits is which gates wait for the gate of a name.
	waits map[string][]int
	// lacks is, gate by gate, for how many others it waits.
	lacks []int
}

func newLine(c api.Circuit) *line {
	l := &line{waits: map[string][]int{}, lacks: make([]int, len(c.Gates))}
	gates := gatePlaces(c)
	for i, g := range c.Gates {
		for _, s := range g.Ins {
			if _, ok := gates[s]; ok {
				l.waits[s] = append(l.waits[s], i)
				l.lacks[i]++
			}
		}
		if l.lacks[i] == 0 {
			heap.Push(&l.ready, i)
		}
	}
	return l
}

// leave lets those go on that wait for the gate of a name.
func (l *line) leave(name string) {
	for _, i := range l.waits[name] {
		l.lacks[i]--
		if l.lacks[i] == 0 {
			heap.Push(&l.ready, i)
		}
	}
	delete(l.waits, name)
}

// comes tells the places of gates, as they come.
func comes(c api.Circuit) iter.Seq[int] {
	return func(yield func(int) bool) {
		l := newLine(c)
		for l.ready.Len() > 0 {
			i := heap.Pop(&l.ready).(int)
			if !yield(i) {
				return
			}
			l.leave(c.Gates[i].Name)
		}
	}
}
