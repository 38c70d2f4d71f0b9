package queue_test

import (
	"fmt"
	"math"
	"runtime"
	"slices"
	"testing"
	"time"

	"belfry/api"
	"belfry/label"
	"belfry/line"
	"belfry/queue"
)

// The tests here and in plain_test.go are of P1601, with P1 to P9 as far as they bear on it.

// most is how many may wait at most, whatever the queue.
const most = 1024

// open tells a queue in which so many may wait, and these do.
func open[T any](t *testing.T, most int, l ...T) *queue.Queue[T] {
	t.Helper()
	q, e := queue.New[T](most)
	if e != api.OK || q == nil {
		t.Fatalf("%d: %v", most, e)
	}
	puts(t, q, l...)
	return q
}

// puts lets these wait in q.
func puts[T any](t *testing.T, q *queue.Queue[T], l ...T) {
	t.Helper()
	for _, x := range l {
		if e := q.Put(x); e != api.OK {
			t.Fatalf("Put(%v): %v", x, e)
		}
	}
}

// tells sees to it that just these wait in q, each time.
func tells[T comparable](t *testing.T, q *queue.Queue[T], want ...T) {
	t.Helper()
	for range 2 {
		x, ok := q.Head()
		if l := q.All(); !slices.Equal(l, want) || q.Len() != len(want) {
			t.Errorf("%v, %d; want %v", l, q.Len(), want)
		}
		if ok != (len(want) > 0) || ok && x != want[0] || !ok && x != *new(T) {
			t.Errorf("Head: %v, %v; want the first of %v", x, ok, want)
		}
	}
}

// takes sees to it that q gives these, one behind the other.
func takes[T comparable](t *testing.T, q *queue.Queue[T], want ...T) {
	t.Helper()
	for _, w := range want {
		if x, ok := q.Take(); x != w || !ok {
			t.Errorf("Take: %v, %v; want %v", x, ok, w)
		}
	}
}

// empty sees to it that nothing is in q, nor comes of it.
func empty[T comparable](t *testing.T, q *queue.Queue[T]) {
	t.Helper()
	tells(t, q)
	if x, ok := q.Take(); x != *new(T) || ok {
		t.Errorf("Take: %v, %v", x, ok)
	}
	if n := q.Clear(); n != 0 {
		t.Errorf("Clear: %d", n)
	}
	tells(t, q)
}

// busy sees to it that q takes no more, and stays as it was.
func busy[T comparable](t *testing.T, q *queue.Queue[T], x T) {
	t.Helper()
	was := q.All()
	for range 3 {
		if e := q.Put(x); e != api.ErrBusy {
			t.Errorf("Put(%v): %v", x, e)
		}
		tells(t, q, was...)
	}
}

// upTo tells the numbers from first on, n of them.
func upTo(first, n int) []int {
	var l []int
	for i := range n {
		l = append(l, first+i)
	}
	return l
}

func TestNew(t *testing.T) {
	for _, n := range []int{1, 2, 3, 512, most - 1, most} {
		empty(t, open[int](t, n))
		empty(t, open[string](t, n))
	}
	for _, n := range []int{math.MinInt, -most, -1, 0, most + 1, 2 * most, 1<<32 + 1, math.MaxInt} {
		if q, e := queue.New[int](n); q != nil || e != api.ErrArg {
			t.Errorf("%d: %v, %v", n, q, e)
		}
	}
}

// TestPut: as many as may wait do, and one more does not.
func TestPut(t *testing.T) {
	for _, n := range []int{1, 2, 3, 7, 8, 9, 64, most - 1, most} {
		q := open[int](t, n)
		for i := range n {
			puts(t, q, i)
		}
		busy(t, q, n)
		takes(t, q, 0)
		puts(t, q, n)
		busy(t, q, n+1)
		takes(t, q, upTo(1, n)...)
		empty(t, q)
		puts(t, q, upTo(0, n)...)
		busy(t, q, n)
	}
	// what is alike, and what is nothing, waits like others
	q := open(t, 3, 0, 5, 0)
	busy(t, q, 0)
	takes(t, q, 0, 5, 0)
	empty(t, q)
}

// TestTake: the eldest goes, the others wait on.
func TestTake(t *testing.T) {
	q := open(t, 4, "a", "b", "c")
	takes(t, q, "a")
	tells(t, q, "b", "c")
	puts(t, q, "d", "e")
	busy(t, q, "f")
	takes(t, q, "b", "c", "d")
	tells(t, q, "e")
	takes(t, q, "e")
	empty(t, q)
	puts(t, q, "")
	tells(t, q, "")
	takes(t, q, "")
	empty(t, q)
}

// TestRound: a queue goes on for ever, however many wait meanwhile.
func TestRound(t *testing.T) {
	for _, n := range []int{1, 2, 3, 10, most} {
		for _, wait := range []int{0, min(1, n-1), n / 2, n - 1} {
			q := open(t, n, upTo(0, wait)...)
			for i := range 3 * most {
				puts(t, q, wait+i)
				takes(t, q, i)
			}
			tells(t, q, upTo(3*most, wait)...)
		}
	}
}

// TestHead: the eldest is told and stays.
func TestHead(t *testing.T) {
	q := open(t, 3, 7)
	for _, c := range []struct{ put, head int }{{8, 7}, {6, 7}} {
		puts(t, q, c.put)
		if x, ok := q.Head(); x != c.head || !ok {
			t.Errorf("%d, %v", x, ok)
		}
	}
	tells(t, q, 7, 8, 6)
	takes(t, q, 7)
	tells(t, q, 8, 6)
}

// TestClear: all go, and the queue goes on as a new one would.
func TestClear(t *testing.T) {
	for _, n := range []int{1, 2, 5, most} {
		for _, gone := range []int{0, 1, n - 1, n} {
			q := open(t, n, upTo(0, n)...)
			takes(t, q, upTo(0, gone)...)
			if got := q.Clear(); got != n-gone {
				t.Errorf("%d of %d: %d", n-gone, n, got)
			}
			empty(t, q)
			puts(t, q, upTo(50, n)...)
			busy(t, q, 0)
			takes(t, q, upTo(50, n)...)
			empty(t, q)
		}
	}
}

// TestAll: each list is the caller's own, its spare room too.
func TestAll(t *testing.T) {
	q := open(t, 10, upTo(1, 5)...)
	takes(t, q, 1)
	l, m := q.All(), q.All()
	for _, x := range [][]int{l, m} {
		x = x[:cap(x)]
		clear(x)
		tells(t, q, 2, 3, 4, 5)
	}
	l[0] = 9
	_ = append(l[:2], 7, 7, 7, 7, 7)
	if m[0] != 0 {
		t.Error("two lists share what they have")
	}
	puts(t, q, 6, 7)
	l = q.All()
	takes(t, q, 2, 3)
	puts(t, q, 8)
	q.Clear()
	puts(t, q, 9)
	if !slices.Equal(l, upTo(2, 6)) {
		t.Errorf("a list that was told is now %v", l)
	}
}

// TestOwn: two queues have nothing to do with each other.
func TestOwn(t *testing.T) {
	p, q := open(t, 2, 1, 2), open(t, 3, 1)
	busy(t, p, 3)
	puts(t, q, 5, 6)
	takes(t, p, 1)
	tells(t, p, 2)
	tells(t, q, 1, 5, 6)
	p.Clear()
	busy(t, q, 7)
	empty(t, p)
}

// TestKinds: things of many kinds wait, and where there is none its zero value stands.
func TestKinds(t *testing.T) {
	s := open[line.Sample](t, 2)
	x := line.Sample{Labels: label.Set{{Name: "job", Value: "web"}}, Value: -5, Time: 1500, Src: 3, Seq: 9}
	puts(t, s, x, line.Sample{})
	for _, want := range []string{fmt.Sprint(x), fmt.Sprint(line.Sample{}), fmt.Sprint(line.Sample{})} {
		h, there := s.Head()
		got, ok := s.Take()
		if fmt.Sprint(got) != want || fmt.Sprint(h) != want || ok != there {
			t.Errorf("%v, %v; want %s", got, h, want)
		}
	}
	l := open(t, 2, []int{1, 2}, nil)
	if got, ok := l.Take(); !slices.Equal(got, []int{1, 2}) || !ok {
		t.Errorf("%v, %v", got, ok)
	}
	if got, ok := l.Take(); got != nil || !ok {
		t.Errorf("%v, %v", got, ok)
	}
	if got, ok := l.Take(); got != nil || ok {
		t.Errorf("%v, %v", got, ok)
	}
	n := 5
	p := open(t, 2, &n, nil)
	takes(t, p, &n, nil)
	empty(t, p)
	e := open(t, 2, [0]int{}, [0]int{})
	busy(t, e, [0]int{})
	takes(t, e, [0]int{}, [0]int{})
	empty(t, e)
	a := open[any](t, 3, 1, "x", nil)
	takes(t, a, any(1), any("x"), nil)
	empty(t, a)
	f := open(t, 1, func() int { return 7 })
	if g, ok := f.Take(); !ok || g() != 7 {
		t.Error("a function")
	}
	if g, ok := f.Take(); ok || g != nil {
		t.Error("a function where there is none")
	}
	q := open(t, 1, open(t, 2, "in", "it"))
	if in, ok := q.Take(); ok {
		takes(t, in, "in", "it")
	}
}

// TestGone: what went is not kept, be it taken or cleared.
func TestGone(t *testing.T) {
	gone := make(chan int, 6)
	q := open[*[1000]int](t, 8)
	for i := range 6 {
		x := new([1000]int)
		runtime.SetFinalizer(x, func(*[1000]int) { gone <- i })
		puts(t, q, x)
	}
	last := new([1000]int)
	puts(t, q, last)
	for range 6 {
		q.Take()
	}
	waits(t, gone, 6)
	tells(t, q, last)
	for i := range 6 {
		x := new([1000]int)
		runtime.SetFinalizer(x, func(*[1000]int) { gone <- i })
		puts(t, q, x)
	}
	q.Clear()
	waits(t, gone, 6)
	empty(t, q)
}

// waits sees to it that n things are no more.
func waits(t *testing.T, gone chan int, n int) {
	t.Helper()
	for range 100 {
		runtime.GC()
		if len(gone) == n {
			break
		}
		time.Sleep(time.Millisecond)
	}
	if len(gone) != n {
		t.Errorf("%d of %d went", len(gone), n)
	}
	for len(gone) > 0 {
		<-gone
	}
}

// TestWhatMayNotBe: a queue that New did not tell has no room, and does not panic.
func TestWhatMayNotBe(t *testing.T) {
	var q queue.Queue[int]
	empty(t, &q)
	q.Put(1)
	q.Head()
	q.All()
	q.Take()
	q.Clear()
	q.Len()
}
