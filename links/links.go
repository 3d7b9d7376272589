// Package links: the frames that wait between neighbours, the first one in comes out first.
package links

import (
	"rover/api"
	"rover/tree"
)

// room is more than can ever wait in one link: no frame becomes more than ten others, and no call adds frames to MaxFrames of them. So a send never blocks.
const room = 2000

// Links has a channel from each broker to each neighbour, and nil between all others.
type Links[F any] struct {
	queues [api.MaxBrokers][api.MaxBrokers]chan F
}

// New makes the links of a tree, all empty.
func New[F any](t tree.Tree) Links[F] {
	var l Links[F]
	for from := range t.Brokers() {
		for to := range t.Brokers() {
			if t.Neighbours(from, to) {
				l.queues[from][to] = make(chan F, room)
			}
		}
	}
	return l
}

// Send puts a frame into the link between two neighbours.
func (l *Links[F]) Send(from, to int, frame F) {
	l.queues[from][to] <- frame
}

// Take takes the first frame out of the link between two neighbours; false, if none waits.
func (l *Links[F]) Take(from, to int) (F, bool) {
	select {
	case frame := <-l.queues[from][to]:
		return frame, true
	default:
		var none F
		return none, false
	}
}

// Pending lists the links in which frames wait, by rising From, then To.
func (l *Links[F]) Pending() []api.Link {
	var pending []api.Link
	for from, row := range l.queues {
		for to, queue := range row {
			if many := len(queue); many > 0 {
				pending = append(pending, api.Link{From: from, To: to, Many: many})
			}
		}
	}
	return pending
}

// Waiting tells how many frames wait in all links together.
func (l *Links[F]) Waiting() int {
	waiting := 0
	for _, link := range l.Pending() {
		waiting += link.Many
	}
	return waiting
}

// Close closes all links, and tells how many frames were left in them. Nothing else may be asked of them afterwards.
func (l *Links[F]) Close() int {
	left := 0
	for _, row := range l.queues {
		for _, queue := range row {
			if queue != nil {
				left += drain(queue)
			}
		}
	}
	return left
}

func drain[F any](queue chan F) int {
	close(queue)
	left := 0
	for range queue {
		left++
	}
	return left
}
