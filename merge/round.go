package merge

import (
	"bytes"
	"container/heap"
	"iter"

	"espalier/api"
)

// queue is a heap of heads that stand at a pair: the least key first, of one key in the sources' order.
type queue []*head

func (q queue) Len() int { return len(q) }

func (q queue) Less(i, j int) bool {
	if order := bytes.Compare(q[i].pair.Key, q[j].pair.Key); order != 0 {
		return order < 0
	}
	return q[i].place < q[j].place
}

func (q queue) Swap(i, j int) { q[i], q[j] = q[j], q[i] }

func (q *queue) Push(h any) { *q = append(*q, h.(*head)) }

func (q *queue) Pop() any {
	last := len(*q) - 1
	h := (*q)[last]
	*q = (*q)[:last]
	return h
}

// step steps heads on, and takes those in that have a pair there.
func (q *queue) step(heads []*head) {
	for _, h := range heads {
		if h.step() {
			heap.Push(q, h)
		}
	}
}

// pop takes out all heads that stand at the least key.
func (q *queue) pop() []*head {
	round := []*head{heap.Pop(q).(*head)}
	for q.Len() > 0 && bytes.Equal((*q)[0].pair.Key, round[0].pair.Key) {
		round = append(round, heap.Pop(q).(*head))
	}
	return round
}

// rounds tells of each key of any source, by rising keys, the heads that stand there, in the sources' order. They step on when it is asked to go on, no sooner.
func rounds(sources []iter.Seq[api.Pair]) iter.Seq[[]*head] {
	return func(yield func([]*head) bool) {
		heads := begin(sources...)
		defer end(heads)
		var q queue
		for q.step(heads); q.Len() > 0; {
			round := q.pop()
			if !yield(round) {
				return
			}
			q.step(round)
		}
	}
}

func valuesOf(round []*head) [][]byte {
	values := make([][]byte, len(round))
	for i, h := range round {
		values[i] = h.pair.Value
	}
	return values
}
