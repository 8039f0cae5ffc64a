package heap_test

import (
	"math"
	"math/rand"
	"slices"
	"testing"

	"countermand/api"
	"countermand/heap"
)

const (
	forever  int64 = api.Forever
	earliest int64 = -1 << 63
)

type entry = heap.Entry

// model is a heap as plainly as the document says it: a list, each ahead of the next one.
type model struct {
	most int
	list []entry
}

func (m *model) clone() *model { return &model{m.most, slices.Clone(m.list)} }

// ahead is the order written out anew, so that the heap's own isn't held against itself.
func ahead(a, b entry) bool {
	switch {
	case a.At != b.At:
		return a.At < b.At
	case a.Seq != b.Seq:
		return a.Seq < b.Seq
	}
	return a.Id < b.Id
}

func (m *model) find(id int) int {
	return slices.IndexFunc(m.list, func(x entry) bool { return x.Id == id })
}

func (m *model) put(x entry) api.Errno {
	switch {
	case x.Id < 0 || x.Id >= m.most:
		return api.ErrName
	case m.find(x.Id) >= 0:
		return api.ErrWaits
	}
	place := 0
	for place < len(m.list) && ahead(m.list[place], x) {
		place++
	}
	m.list = slices.Insert(m.list, place, x)
	return api.OK
}

func (m *model) drop(id int) bool {
	i := m.find(id)
	if i < 0 {
		return false
	}
	m.list = slices.Delete(m.list, i, i+1)
	return true
}

func (m *model) move(id int, at int64) bool {
	i := m.find(id)
	if i < 0 {
		return false
	}
	x := m.list[i]
	x.At = at
	return m.drop(id) && m.put(x) == api.OK
}

func (m *model) take(now int64) (entry, bool) {
	if len(m.list) == 0 || m.list[0].At > now {
		return entry{}, false
	}
	x := m.list[0]
	return x, m.drop(x.Id)
}

func made(t *testing.T, most int, things ...entry) *heap.Heap {
	t.Helper()
	h, e := heap.New(most)
	if h == nil || e != api.OK {
		t.Fatalf("New(%d) = %v, %d", most, h, e)
	}
	for _, x := range things {
		wantPut(t, h, x, api.OK)
	}
	return h
}

func wantPut(t *testing.T, h *heap.Heap, x entry, want api.Errno) {
	t.Helper()
	if e := h.Put(x); e != want {
		t.Errorf("Put(%v): error %d, want %d", x, e, want)
	}
}

func wantDrop(t *testing.T, h *heap.Heap, id int, want bool) {
	t.Helper()
	if is := h.Drop(id); is != want {
		t.Errorf("Drop(%d) = %t, want %t", id, is, want)
	}
}

func wantMove(t *testing.T, h *heap.Heap, id int, at int64, want bool) {
	t.Helper()
	if is := h.Move(id, at); is != want {
		t.Errorf("Move(%d, %d) = %t, want %t", id, at, is, want)
	}
}

func wantTake(t *testing.T, h *heap.Heap, now int64, want entry, is bool) {
	t.Helper()
	if x, ok := h.Take(now); x != want || ok != is {
		t.Errorf("Take(%d) = %v, %t, want %v, %t", now, x, ok, want, is)
	}
}

func wantGet(t *testing.T, h *heap.Heap, id int, want entry, is bool) {
	t.Helper()
	if x, ok := h.Get(id); x != want || ok != is {
		t.Errorf("Get(%d) = %v, %t, want %v, %t", id, x, ok, want, is)
	}
}

// same holds all that a heap tells against things that are written out in their order,
// and against what isn't there.
func same(t *testing.T, h *heap.Heap, most int, want ...entry) {
	t.Helper()
	if n := h.Len(); n != len(want) {
		t.Errorf("Len() = %d, want %d", n, len(want))
	}
	if l := h.All(); !slices.Equal(l, want) {
		t.Errorf("All() = %v, want %v", l, want)
	}
	var first entry
	if len(want) > 0 {
		first = want[0]
	}
	if x, is := h.First(); x != first || is != (len(want) > 0) {
		t.Errorf("First() = %v, %t, want %v, %t", x, is, first, len(want) > 0)
	}
	there := make([]bool, most)
	for _, x := range want {
		there[x.Id] = true
		wantGet(t, h, x.Id, x, true)
	}
	for id, is := range there {
		if !is {
			wantGet(t, h, id, entry{}, false)
		}
	}
	for _, id := range outside(most) {
		wantGet(t, h, id, entry{}, false)
	}
	held(t, h, want)
}

// held looks whether the rows hold those things, each below one that it isn't ahead of.
func held(t *testing.T, h *heap.Heap, want []entry) {
	t.Helper()
	rows := h.Rows()
	for place := 1; place < len(rows); place++ {
		if over := (place - 1) / 4; ahead(rows[place], rows[over]) {
			t.Errorf("%v at place %d is ahead of %v at place %d over it", rows[place], place, rows[over], over)
		}
	}
	slices.SortFunc(rows, func(a, b entry) int {
		switch {
		case ahead(a, b):
			return -1
		case ahead(b, a):
			return 1
		}
		return 0
	})
	if !slices.Equal(rows, want) {
		t.Errorf("Rows() has, in order, %v, want %v", rows, want)
	}
}

// outside are numbers of which there is none, where there are so many.
func outside(many int) []int {
	return []int{-1, many, -2, many + 1, 1000, 1001, 1000 + many, 1 << 16, 1 << 32, -1 << 16, math.MinInt, math.MaxInt}
}

// P3.1
func TestNew(t *testing.T) {
	for _, most := range []int{1, 2, 30, 999, 1000} {
		h := made(t, most)
		same(t, h, most)
		wantPut(t, h, entry{Id: most - 1, At: 3, Seq: 2}, api.OK)
		wantPut(t, h, entry{Id: most}, api.ErrName)
		same(t, h, most, entry{Id: most - 1, At: 3, Seq: 2})
	}
}

// P3.1
func TestNewOfWrongSizes(t *testing.T) {
	for _, most := range []int{0, -1, 1001, 1002, -1000, 1 << 16, 1<<16 + 1, 1<<32 + 1, math.MinInt, math.MaxInt} {
		if h, e := heap.New(most); h != nil || e != api.ErrArg {
			t.Errorf("New(%d) = %v, %d, want nil, %d", most, h, e, api.ErrArg)
		}
	}
}

// P3.1: two heaps have nothing in common.
func TestHeapsAreApart(t *testing.T) {
	a, b := made(t, 3), made(t, 3)
	wantPut(t, a, entry{1, 5, 1}, api.OK)
	same(t, b, 3)
	wantPut(t, b, entry{1, 4, 1}, api.OK)
	same(t, a, 3, entry{1, 5, 1})
	same(t, b, 3, entry{1, 4, 1})
}

// P3.1
func TestAhead(t *testing.T) {
	for _, c := range []struct {
		a, b entry
		want bool
	}{
		{entry{9, 3, 9}, entry{1, 4, 1}, true},
		{entry{9, 3, 2}, entry{1, 3, 3}, true},
		{entry{4, 3, 2}, entry{5, 3, 2}, true},
		{entry{4, 3, 2}, entry{4, 3, 2}, false},
		{entry{}, entry{}, false},
		{entry{5, earliest, 9}, entry{1, forever, 1}, true},
		{entry{5, earliest, 9}, entry{1, earliest + 1, 1}, true},
		{entry{5, forever - 1, 9}, entry{1, forever, 1}, true},
		{entry{5, -1, 9}, entry{1, 0, 1}, true},
		{entry{5, 0, earliest}, entry{1, 0, forever}, true},
		{entry{5, 0, -1}, entry{1, 0, 0}, true},
		{entry{5, earliest, forever}, entry{1, forever, earliest}, true},
		{entry{math.MinInt, 0, 0}, entry{math.MaxInt, 0, 0}, true},
		{entry{-1, 0, 0}, entry{0, 0, 0}, true},
	} {
		if got := heap.Ahead(c.a, c.b); got != c.want {
			t.Errorf("Ahead(%v, %v) = %t", c.a, c.b, got)
		}
		if heap.Ahead(c.b, c.a) {
			t.Errorf("Ahead(%v, %v) = true", c.b, c.a)
		}
	}
}

// P3.1: of any two things that differ one is ahead; and who is ahead of one is ahead of all behind it.
func TestAheadIsAnOrder(t *testing.T) {
	var all []entry
	for _, at := range []int64{earliest, -1, 0, 7, forever} {
		for _, seq := range []int64{earliest, 0, 1, forever} {
			for _, id := range []int{0, 1, 999} {
				all = append(all, entry{id, at, seq})
			}
		}
	}
	for i, a := range all {
		for j, b := range all {
			if got := heap.Ahead(a, b); got != (i < j) {
				t.Errorf("Ahead(%v, %v) = %t", a, b, got)
			}
		}
	}
}

// P3.2
func TestPut(t *testing.T) {
	h := made(t, 8)
	wantPut(t, h, entry{3, 9, 1}, api.OK)
	same(t, h, 8, entry{3, 9, 1})
	wantPut(t, h, entry{1, 5, 2}, api.OK)
	wantPut(t, h, entry{2, 5, 1}, api.OK)
	same(t, h, 8, entry{2, 5, 1}, entry{1, 5, 2}, entry{3, 9, 1})
	wantPut(t, h, entry{0, 5, 1}, api.OK)
	wantPut(t, h, entry{6, 5, 1}, api.OK)
	wantPut(t, h, entry{7, earliest, 9}, api.OK)
	wantPut(t, h, entry{5, forever, earliest}, api.OK)
	wantPut(t, h, entry{4, forever, forever}, api.OK)
	same(t, h, 8, entry{7, earliest, 9}, entry{0, 5, 1}, entry{2, 5, 1}, entry{6, 5, 1},
		entry{1, 5, 2}, entry{3, 9, 1}, entry{5, forever, earliest}, entry{4, forever, forever})
}

// P3.2: Put, where it may not be, changes nothing, be the heap empty, full or between.
func TestPutRefused(t *testing.T) {
	for many := range 7 {
		var things []entry
		for id := range many {
			things = append(things, entry{id, int64(id), 1})
		}
		h := made(t, 6, things...)
		for _, id := range outside(6) {
			wantPut(t, h, entry{id, earliest, earliest}, api.ErrName)
			wantPut(t, h, entry{id, forever, 0}, api.ErrName)
		}
		for _, x := range things {
			wantPut(t, h, x, api.ErrWaits)
			wantPut(t, h, entry{x.Id, earliest, earliest}, api.ErrWaits)
			wantPut(t, h, entry{x.Id, forever, forever}, api.ErrWaits)
			wantPut(t, h, entry{Id: x.Id}, api.ErrWaits)
		}
		same(t, h, 6, things...)
	}
}

// P3.2: each thing of heaps of each size is dropped, and comes back.
func TestDrop(t *testing.T) {
	for many := 1; many <= 24; many++ {
		for id := range many {
			m, h := &model{most: many}, made(t, many)
			for i := range many {
				x := entry{i * 7 % many, int64(i * 5 % 9), int64(i)}
				if many%7 == 0 {
					x.Id = i
				}
				wantPut(t, h, x, m.put(x))
			}
			x := m.list[m.find(id)]
			wantDrop(t, h, id, m.drop(id))
			same(t, h, many, m.list...)
			wantDrop(t, h, id, false)
			same(t, h, many, m.list...)
			x.At = 4
			wantPut(t, h, x, m.put(x))
			same(t, h, many, m.list...)
		}
	}
}

// P3.2: the last thing of all comes to the place of one that is dropped, and belongs over it.
func TestDropLetsTheLastGoUp(t *testing.T) {
	l := []entry{{0, 0, 0}, {1, 50, 0}, {2, 10, 0}, {3, 20, 0}, {4, 30, 0},
		{5, 60, 0}, {6, 61, 0}, {7, 62, 0}, {8, 63, 0}, {9, 11, 0}}
	h := made(t, 10, l...)
	if rows := h.Rows(); !slices.Equal(rows, l) {
		t.Fatalf("Rows() = %v, want %v: each came where it belongs already", rows, l)
	}
	wantDrop(t, h, 5, true)
	same(t, h, 10, l[0], l[2], l[9], l[3], l[4], l[1], l[6], l[7], l[8])
}

// P3.2
func TestDropAndMoveOfNone(t *testing.T) {
	for _, l := range [][]entry{nil, {{3, 5, 1}}, {{3, 5, 1}, {1, 6, 1}, {2, 6, 2}}} {
		h := made(t, 5, l...)
		for _, id := range append(outside(5), 0, 4) {
			wantDrop(t, h, id, false)
			wantMove(t, h, id, 5, false)
			wantMove(t, h, id, earliest, false)
			wantMove(t, h, id, forever, false)
		}
		same(t, h, 5, l...)
	}
}

// P3.2: each thing is moved up, down, to where it is, beside another one and to both ends; its number stays.
func TestMove(t *testing.T) {
	for many := 1; many <= 24; many++ {
		for id := range many {
			for _, at := range []int64{earliest, -1, 0, 1, 3, 4, 5, 8, 9, forever - 1, forever} {
				m, h := &model{most: many}, made(t, many)
				for i := range many {
					x := entry{i, int64(i * 5 % 9), int64(many - i)}
					wantPut(t, h, x, m.put(x))
				}
				wantMove(t, h, id, at, m.move(id, at))
				same(t, h, many, m.list...)
				wantMove(t, h, id, at, m.move(id, at))
				same(t, h, many, m.list...)
			}
		}
	}
}

// P3.3
func TestFirstAndTakeOfNone(t *testing.T) {
	h := made(t, 3)
	for range 2 {
		for _, now := range []int64{earliest, -1, 0, 1, forever} {
			wantTake(t, h, now, entry{}, false)
		}
		same(t, h, 3)
		wantPut(t, h, entry{0, 0, 0}, api.OK)
		wantTake(t, h, 0, entry{0, 0, 0}, true)
		same(t, h, 3)
	}
}

// P3.3: the first one is taken at its time, and behind it, but not just before.
func TestTakeByTime(t *testing.T) {
	for _, at := range []int64{earliest, earliest + 1, -1, 0, 1, 5, forever - 1, forever} {
		l := []entry{{2, at, 1}, {0, at, 2}, {1, forever, 3}}
		if at > earliest {
			h := made(t, 3, l...)
			wantTake(t, h, at-1, entry{}, false)
			wantTake(t, h, earliest, entry{}, false)
			same(t, h, 3, l...)
		}
		if at < forever {
			h := made(t, 3, l...)
			wantTake(t, h, at+1, l[0], true)
			same(t, h, 3, l[1:]...)
		}
		h := made(t, 3, l...)
		wantTake(t, h, at, l[0], true)
		same(t, h, 3, l[1:]...)
		wantTake(t, h, at, l[1], true)
		same(t, h, 3, l[2])
		wantTake(t, h, forever, l[2], true)
		wantTake(t, h, forever, entry{}, false)
		same(t, h, 3)
	}
}

// P3.3: lists that were told are the asker's own.
func TestListsAreNew(t *testing.T) {
	want := []entry{{2, 5, 1}, {1, 5, 2}, {3, 9, 1}}
	h := made(t, 4, want[2], want[1], want[0])
	for _, tell := range []func() []entry{h.All, h.Rows} {
		l := tell()
		for i := range l {
			l[i] = entry{0, 0, 0}
		}
		_ = append(l[:1], entry{}, entry{})
		_ = append(l, entry{})
		same(t, h, 4, want...)
	}
	all, rows := h.All(), h.Rows()
	kept := slices.Clone(rows)
	wantTake(t, h, forever, want[0], true)
	wantMove(t, h, 3, 0, true)
	wantPut(t, h, entry{0, 1, 1}, api.OK)
	if !slices.Equal(all, want) || !slices.Equal(rows, kept) {
		t.Errorf("lists that were told earlier are %v and %v now", all, rows)
	}
}

// P3.3: what tells changes nothing.
func TestTellingChangesNothing(t *testing.T) {
	h := made(t, 9)
	for id := range 9 {
		wantPut(t, h, entry{id, int64(id * 4 % 9), 0}, api.OK)
	}
	rows := h.Rows()
	for range 2 {
		h.All()
		h.First()
		h.Len()
		h.Get(4)
		h.Get(9)
		h.Take(-1)
		if l := h.Rows(); !slices.Equal(l, rows) {
			t.Errorf("Rows() = %v, but %v earlier", l, rows)
		}
	}
}

// P3.1 to P3.4 at the greatest size, full and emptied, one by one and by times.
func TestGreatest(t *testing.T) {
	h, m := made(t, 1000), &model{most: 1000}
	for i := range 1000 {
		x := entry{i * 7 % 1000, int64(i * 37 % 50), int64(i % 3)}
		wantPut(t, h, x, m.put(x))
		held(t, h, m.list)
	}
	wantPut(t, h, entry{Id: 1000}, api.ErrName)
	wantPut(t, h, entry{Id: 999}, api.ErrWaits)
	same(t, h, 1000, m.list...)
	for id := 0; id < 1000; id += 3 {
		wantMove(t, h, id, int64(id%60), m.move(id, int64(id%60)))
		held(t, h, m.list)
	}
	same(t, h, 1000, m.list...)
	for id := 0; id < 1000; id += 4 {
		wantDrop(t, h, id, m.drop(id))
		held(t, h, m.list)
	}
	same(t, h, 1000, m.list...)
	for now := int64(-1); now <= 60; now++ {
		for more := true; more; {
			x, is := m.take(now)
			wantTake(t, h, now, x, is)
			held(t, h, m.list)
			more = is
		}
	}
	same(t, h, 1000)
}

// step does one thing with a heap and with its model; what they answer must be the same.
func step(t *testing.T, h *heap.Heap, m *model, what int, x entry) {
	t.Helper()
	switch what {
	case 0:
		wantPut(t, h, x, m.put(x))
	case 1:
		wantDrop(t, h, x.Id, m.drop(x.Id))
	case 2:
		wantMove(t, h, x.Id, x.At, m.move(x.Id, x.At))
	case 3:
		first, is := m.take(x.At)
		wantTake(t, h, x.At, first, is)
	}
}

// orders are all orders in which some of so many things, with the times 1 and 2, may come.
func orders(things int) [][]entry {
	all := [][]entry{nil}
	for id := range things {
		for _, l := range slices.Clone(all) {
			for place := range len(l) + 1 {
				for at := int64(1); at <= 2; at++ {
					all = append(all, slices.Insert(slices.Clone(l), place, entry{id, at, int64(id % 2)}))
				}
			}
		}
	}
	return all
}

// P3.2, P3.3: whatever is done with a small heap, from however its things came, be it right or wrong.
func TestEveryStepOfSmallHeaps(t *testing.T) {
	for things := 1; things <= 4; things++ {
		for _, came := range orders(things) {
			from := &model{most: things}
			for _, x := range came {
				from.put(x)
			}
			for what := range 4 {
				for id := -1; id <= things; id++ {
					for at := int64(0); at <= 3; at++ {
						h, m := made(t, things, came...), from.clone()
						step(t, h, m, what, entry{id, at, 1})
						same(t, h, things, m.list...)
						if t.Failed() {
							t.Fatalf("%v, then %d of %d, %d", came, what, id, at)
						}
					}
				}
			}
		}
	}
}

// P3.2 to P3.4: long ways, on which nothing is lost and nothing is there twice.
func TestLongWays(t *testing.T) {
	for seed := range int64(60) {
		r := rand.New(rand.NewSource(seed))
		most, times := 1+r.Intn(80), 1+r.Int63n(40)
		h, m := made(t, most), &model{most: most}
		for range 600 {
			what := []int{0, 0, 0, 1, 2, 2, 3}[r.Intn(7)]
			x := entry{r.Intn(most+2) - 1, r.Int63n(times), r.Int63n(3)}
			step(t, h, m, what, x)
			same(t, h, most, m.list...)
			if t.Failed() {
				t.Fatalf("seed %d: %d of %v", seed, what, x)
			}
		}
	}
}

// P3.4: things are taken in their order, whichever way they came.
func TestTakenInOrder(t *testing.T) {
	for seed := range int64(20) {
		r := rand.New(rand.NewSource(seed))
		h, m := made(t, 200), &model{most: 200}
		for _, id := range r.Perm(200) {
			x := entry{id, r.Int63n(30) - 15, r.Int63n(4)}
			wantPut(t, h, x, m.put(x))
		}
		for _, want := range m.list {
			wantTake(t, h, forever, want, true)
		}
		same(t, h, 200)
	}
}

// P3.4: one that is moved is as one that was dropped and put anew, as they are held too.
func TestMovedIsAsPutAnew(t *testing.T) {
	for seed := range int64(40) {
		r := rand.New(rand.NewSource(seed))
		most := 1 + r.Intn(40)
		a, b := made(t, most), made(t, most)
		for _, id := range r.Perm(most) {
			x := entry{id, r.Int63n(12), r.Int63n(3)}
			wantPut(t, a, x, api.OK)
			wantPut(t, b, x, api.OK)
		}
		for range 50 {
			id, at := r.Intn(most), r.Int63n(12)
			wantMove(t, a, id, at, true)
			x, _ := b.Get(id)
			wantDrop(t, b, id, true)
			x.At = at
			wantPut(t, b, x, api.OK)
			if !slices.Equal(a.All(), b.All()) || !slices.Equal(a.Rows(), b.Rows()) {
				t.Fatalf("seed %d: moved %d to %d: %v, put anew %v", seed, id, at, a.Rows(), b.Rows())
			}
		}
	}
}

// P3.4, and the example of the document.
func TestExample(t *testing.T) {
	h := made(t, 4, entry{3, 9, 1}, entry{1, 5, 2}, entry{2, 5, 1})
	var got []int
	for _, x := range h.All() {
		got = append(got, x.Id)
	}
	if !slices.Equal(got, []int{2, 1, 3}) {
		t.Errorf("All() has %v, want 2, 1, 3", got)
	}
}

// R4: the same calls answer the same, as they are held too.
func TestSameCallsAnswerTheSame(t *testing.T) {
	var rows [2][]entry
	for i := range rows {
		r := rand.New(rand.NewSource(7))
		h, m := made(t, 50), &model{most: 50}
		for range 500 {
			step(t, h, m, []int{0, 0, 1, 2, 3}[r.Intn(5)], entry{r.Intn(50), r.Int63n(9), r.Int63n(3)})
			rows[i] = append(rows[i], h.Rows()...)
		}
	}
	if !slices.Equal(rows[0], rows[1]) {
		t.Error("the same calls, but other rows")
	}
}
