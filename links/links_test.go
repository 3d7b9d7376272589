package links

import (
	"slices"
	"testing"

	"rover/api"
	"rover/tree"
)

func start(t *testing.T, parents ...int) *Links[int] {
	t.Helper()
	tr, ok := tree.New(parents)
	if !ok {
		t.Fatalf("no tree: %v", parents)
	}
	l := New[int](tr)
	return &l
}

func TestFirstInComesOutFirst(t *testing.T) {
	l := start(t, 0, 0)
	for i := 1; i < 4; i++ {
		l.Send(1, 0, i)
		l.Send(0, 1, -i)
	}
	for i := 1; i < 4; i++ {
		if f, ok := l.Take(1, 0); f != i || !ok {
			t.Errorf("from 1 to 0: %d, %v, want %d", f, ok, i)
		}
	}
	if f, ok := l.Take(1, 0); f != 0 || ok {
		t.Errorf("an empty link: %d, %v", f, ok)
	}
	if f, ok := l.Take(0, 1); f != -1 || !ok {
		t.Errorf("from 0 to 1: %d, %v", f, ok)
	}
}

func TestPendingByFromThenTo(t *testing.T) {
	l := start(t, 0, 0, 1)
	if p := l.Pending(); len(p) != 0 {
		t.Errorf("P8: nothing waits: %v", p)
	}
	for _, k := range [][2]int{{3, 1}, {1, 3}, {2, 0}, {0, 2}, {1, 0}, {0, 1}, {1, 3}} {
		l.Send(k[0], k[1], 0)
	}
	l.Take(2, 0)
	want := []api.Link{{From: 0, To: 1, Many: 1}, {From: 0, To: 2, Many: 1}, {From: 1, To: 0, Many: 1}, {From: 1, To: 3, Many: 2}, {From: 3, To: 1, Many: 1}}
	if p := l.Pending(); !slices.Equal(p, want) {
		t.Errorf("P8: %v, want %v", p, want)
	}
	if w := l.Waiting(); w != 6 {
		t.Errorf("P7: %d wait, want 6", w)
	}
}

func TestOneLinkHoldsAllThatCanWait(t *testing.T) {
	l := start(t, 0)
	for i := range room {
		l.Send(0, 1, i)
	}
	if w := l.Waiting(); w != 2000 {
		t.Errorf("%d wait", w)
	}
}

func TestCloseCountsWhatIsLeft(t *testing.T) {
	if left := start(t).Close(); left != 0 {
		t.Errorf("P8: without links: %d", left)
	}
	if left := start(t, 0, 0).Close(); left != 0 {
		t.Errorf("P8: empty links: %d", left)
	}
	l := start(t, 0, 1)
	for i := range 5 {
		l.Send(2, 1, i)
		l.Send(0, 1, i)
	}
	l.Take(0, 1)
	if left := l.Close(); left != 9 {
		t.Errorf("P8: %d left, want 9", left)
	}
}

func TestCloseClosesEveryLink(t *testing.T) {
	l := start(t, 0)
	l.Close()
	for _, queue := range []chan int{l.queues[0][1], l.queues[1][0]} {
		if _, open := <-queue; open {
			t.Error("a link is open")
		}
	}
}
