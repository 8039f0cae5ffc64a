package ring_test

import (
	"math"
	"math/rand"
	"slices"
	"testing"

	"countermand/api"
	"countermand/ring"
)

const none = -1

// model is an arena as plainly as the document says it: each row is a list.
type model struct {
	rows  [][]int
	nodes int
}

func newModel(rows, nodes int) *model { return &model{make([][]int, rows), nodes} }

func (m *model) clone() *model {
	c := newModel(len(m.rows), m.nodes)
	for row, l := range m.rows {
		c.rows[row] = slices.Clone(l)
	}
	return c
}

func (m *model) in(node int) int {
	return slices.IndexFunc(m.rows, func(l []int) bool { return slices.Contains(l, node) })
}

func (m *model) hasRow(row int) bool { return 0 <= row && row < len(m.rows) }

func (m *model) mayStand(row, node int) api.Errno {
	switch {
	case !m.hasRow(row) || node < 0 || node >= m.nodes:
		return api.ErrName
	case m.in(node) != none:
		return api.ErrWaits
	}
	return api.OK
}

func (m *model) put(row, node int) api.Errno {
	e := m.mayStand(row, node)
	if e == api.OK {
		m.rows[row] = append(m.rows[row], node)
	}
	return e
}

func (m *model) push(row, node int) api.Errno {
	e := m.mayStand(row, node)
	if e == api.OK {
		m.rows[row] = append([]int{node}, m.rows[row]...)
	}
	return e
}

func (m *model) take(row int) (int, bool) {
	if !m.hasRow(row) || len(m.rows[row]) == 0 {
		return none, false
	}
	node := m.rows[row][0]
	m.rows[row] = m.rows[row][1:]
	return node, true
}

func (m *model) drop(node int) bool {
	row := m.in(node)
	if row == none {
		return false
	}
	m.rows[row] = slices.DeleteFunc(slices.Clone(m.rows[row]), func(n int) bool { return n == node })
	return true
}

func (m *model) move(from, to int) api.Errno {
	switch {
	case !m.hasRow(from) || !m.hasRow(to):
		return api.ErrName
	case from == to:
		return api.ErrArg
	}
	m.rows[to] = append(m.rows[to], m.rows[from]...)
	m.rows[from] = nil
	return api.OK
}

// make builds an arena that stands as the model does.
func (m *model) make(t *testing.T) *ring.Arena {
	t.Helper()
	a := made(t, len(m.rows), m.nodes)
	for row, l := range m.rows {
		for _, node := range l {
			wantErr(t, "Put", a.Put(row, node), api.OK)
		}
	}
	return a
}

func made(t *testing.T, rows, nodes int) *ring.Arena {
	t.Helper()
	a, e := ring.New(rows, nodes)
	if a == nil || e != api.OK {
		t.Fatalf("New(%d, %d) = %v, %d", rows, nodes, a, e)
	}
	return a
}

func wantErr(t *testing.T, what string, got, want api.Errno) {
	t.Helper()
	if got != want {
		t.Errorf("%s: error %d, want %d", what, got, want)
	}
}

func wantTake(t *testing.T, a *ring.Arena, row, node int, is bool) {
	t.Helper()
	if n, ok := a.Take(row); n != node || ok != is {
		t.Errorf("Take(%d) = %d, %t, want %d, %t", row, n, ok, node, is)
	}
}

// same holds all that an arena tells against rows that are written out, and against what isn't there.
func same(t *testing.T, a *ring.Arena, nodes int, rows ...[]int) {
	t.Helper()
	if a.Rows() != len(rows) || a.Nodes() != nodes {
		t.Fatalf("%d rows, %d nodes, want %d, %d", a.Rows(), a.Nodes(), len(rows), nodes)
	}
	in := make([]int, nodes)
	for node := range in {
		in[node] = none
	}
	for row, want := range rows {
		first := none
		for i := len(want) - 1; i >= 0; i-- {
			first, in[want[i]] = want[i], row
		}
		if l := a.List(row); !slices.Equal(l, want) {
			t.Errorf("List(%d) = %v, want %v", row, l, want)
		}
		if n := a.Len(row); n != len(want) {
			t.Errorf("Len(%d) = %d, want %d", row, n, len(want))
		}
		if n := a.First(row); n != first {
			t.Errorf("First(%d) = %d, want %d", row, n, first)
		}
	}
	for node, want := range in {
		if row := a.In(node); row != want {
			t.Errorf("In(%d) = %d, want %d", node, row, want)
		}
	}
	for _, row := range outside(len(rows)) {
		if n, l, first := a.Len(row), a.List(row), a.First(row); n != 0 || len(l) != 0 || first != none {
			t.Errorf("of no such row %d: Len %d, List %v, First %d", row, n, l, first)
		}
	}
	for _, node := range outside(nodes) {
		if row := a.In(node); row != none {
			t.Errorf("of no such node: In(%d) = %d", node, row)
		}
	}
}

// outside are numbers of which there is none, where there are so many.
func outside(many int) []int {
	return []int{-1, many, -2, many + 1, 999 + many, 1000 + many, 1 << 16, 1<<16 - 1, 1 << 32, -1 << 16, math.MinInt, math.MaxInt}
}

// inAndOut are all numbers of so many, and some of which there is none.
func inAndOut(many int) []int {
	l := []int{-1, many, 1000, 1000 + many, math.MinInt, math.MaxInt}
	for n := range many {
		l = append(l, n)
	}
	return l
}

// P2.1
func TestNew(t *testing.T) {
	for _, c := range []struct{ rows, nodes int }{
		{1, 1}, {1, 1000}, {1000, 1}, {1000, 1000}, {3, 6}, {999, 2}, {2, 999},
	} {
		a := made(t, c.rows, c.nodes)
		same(t, a, c.nodes, make([][]int, c.rows)...)
	}
}

// P2.1
func TestNewOfWrongSizes(t *testing.T) {
	wrong := []int{0, -1, 1001, -1000, 1 << 16, 1<<16 + 1, 1<<32 + 1, math.MinInt, math.MaxInt}
	for _, n := range wrong {
		for _, c := range [][2]int{{n, 1}, {1, n}, {n, 1000}, {1000, n}, {n, n}, {n, 0}} {
			if a, e := ring.New(c[0], c[1]); a != nil || e != api.ErrArg {
				t.Errorf("New(%d, %d) = %v, %d, want nil, %d", c[0], c[1], a, e, api.ErrArg)
			}
		}
	}
}

// P2.2
func TestPut(t *testing.T) {
	a := made(t, 2, 4)
	wantErr(t, "into an empty row", a.Put(0, 3), api.OK)
	same(t, a, 4, []int{3}, nil)
	wantErr(t, "behind one", a.Put(0, 1), api.OK)
	wantErr(t, "behind two", a.Put(0, 2), api.OK)
	wantErr(t, "into another row", a.Put(1, 0), api.OK)
	same(t, a, 4, []int{3, 1, 2}, []int{0})
}

// P2.2
func TestPush(t *testing.T) {
	a := made(t, 2, 4)
	wantErr(t, "into an empty row", a.Push(0, 3), api.OK)
	same(t, a, 4, []int{3}, nil)
	wantErr(t, "ahead of one", a.Push(0, 1), api.OK)
	wantErr(t, "ahead of two", a.Push(0, 2), api.OK)
	wantErr(t, "into another row", a.Push(1, 0), api.OK)
	same(t, a, 4, []int{2, 1, 3}, []int{0})
}

// P2.2: Put and Push, where they may not be, change nothing.
func TestPutAndPushRefused(t *testing.T) {
	a := made(t, 3, 5)
	for _, node := range []int{3, 1, 2} {
		wantErr(t, "Put", a.Put(0, node), api.OK)
	}
	wantErr(t, "Put", a.Put(1, 4), api.OK)
	for what, do := range map[string]func(row, node int) api.Errno{"Put": a.Put, "Push": a.Push} {
		for _, node := range []int{3, 1, 2, 4} {
			for row := range 3 {
				wantErr(t, what+" of one that stands in a row", do(row, node), api.ErrWaits)
			}
			for _, row := range outside(3) {
				wantErr(t, what+" into no row, of one that stands in one", do(row, node), api.ErrName)
			}
		}
		for _, row := range outside(3) {
			wantErr(t, what+" into no row", do(row, 0), api.ErrName)
			wantErr(t, what+" of neither", do(row, row), api.ErrName)
		}
		for _, node := range outside(5) {
			wantErr(t, what+" of no node", do(0, node), api.ErrName)
			wantErr(t, what+" of no node into an empty row", do(2, node), api.ErrName)
		}
		same(t, a, 5, []int{3, 1, 2}, []int{4}, nil)
	}
}

// P2.2
func TestTake(t *testing.T) {
	a := made(t, 2, 4)
	wantTake(t, a, 0, none, false)
	for _, node := range []int{3, 1, 2} {
		wantErr(t, "Put", a.Put(0, node), api.OK)
	}
	wantErr(t, "Put", a.Put(1, 0), api.OK)
	wantTake(t, a, 0, 3, true)
	same(t, a, 4, []int{1, 2}, []int{0})
	wantTake(t, a, 1, 0, true)
	same(t, a, 4, []int{1, 2}, nil)
	wantTake(t, a, 1, none, false)
	for _, row := range outside(2) {
		wantTake(t, a, row, none, false)
	}
	same(t, a, 4, []int{1, 2}, nil)
	wantErr(t, "Put of one that was taken", a.Put(0, 3), api.OK)
	wantErr(t, "Put into a row whose only node was taken", a.Put(1, 0), api.OK)
	same(t, a, 4, []int{1, 2, 3}, []int{0})
	for _, node := range []int{1, 2, 3} {
		wantTake(t, a, 0, node, true)
	}
	wantTake(t, a, 0, none, false)
	same(t, a, 4, nil, []int{0})
}

// P2.2: a row's first, middle, last and only node is dropped, and comes back.
func TestDrop(t *testing.T) {
	for _, c := range []struct {
		row        []int
		node       int
		left, back []int
	}{
		{[]int{3}, 3, nil, []int{3}},
		{[]int{3, 1}, 3, []int{1}, []int{1, 3}},
		{[]int{3, 1}, 1, []int{3}, []int{3, 1}},
		{[]int{3, 1, 2}, 3, []int{1, 2}, []int{1, 2, 3}},
		{[]int{3, 1, 2}, 1, []int{3, 2}, []int{3, 2, 1}},
		{[]int{3, 1, 2}, 2, []int{3, 1}, []int{3, 1, 2}},
		{[]int{0, 3, 1, 2}, 3, []int{0, 1, 2}, []int{0, 1, 2, 3}},
		{[]int{0, 3, 1, 2}, 1, []int{0, 3, 2}, []int{0, 3, 2, 1}},
	} {
		a := (&model{[][]int{c.row, {4}}, 5}).make(t)
		if !a.Drop(c.node) {
			t.Errorf("Drop(%d) of %v: false", c.node, c.row)
		}
		same(t, a, 5, c.left, []int{4})
		if a.Drop(c.node) {
			t.Errorf("Drop(%d) of %v: true once more", c.node, c.row)
		}
		same(t, a, 5, c.left, []int{4})
		wantErr(t, "Put of one that was dropped", a.Put(0, c.node), api.OK)
		same(t, a, 5, c.back, []int{4})
	}
}

// P2.2
func TestDropOfNone(t *testing.T) {
	a := (&model{[][]int{{3, 1}, {2}}, 5}).make(t)
	for _, node := range append(outside(5), 0, 4) {
		if a.Drop(node) {
			t.Errorf("Drop(%d): true", node)
		}
	}
	same(t, a, 5, []int{3, 1}, []int{2})
}

// P2.3
func TestMove(t *testing.T) {
	for _, c := range []struct{ from, to, want []int }{
		{nil, nil, nil},
		{[]int{2}, nil, []int{2}},
		{[]int{2, 0, 3}, nil, []int{2, 0, 3}},
		{nil, []int{2}, []int{2}},
		{nil, []int{2, 0, 3}, []int{2, 0, 3}},
		{[]int{1}, []int{2}, []int{2, 1}},
		{[]int{4, 1}, []int{2, 0, 3}, []int{2, 0, 3, 4, 1}},
		{[]int{2, 0, 3}, []int{4, 1}, []int{4, 1, 2, 0, 3}},
	} {
		a := (&model{[][]int{c.from, {5}, c.to}, 6}).make(t)
		wantErr(t, "Move down", a.Move(0, 2), api.OK)
		same(t, a, 6, nil, []int{5}, c.want)
		a = (&model{[][]int{c.to, {5}, c.from}, 6}).make(t)
		wantErr(t, "Move up", a.Move(2, 0), api.OK)
		same(t, a, 6, c.want, []int{5}, nil)
	}
}

// P2.3: both rows are rows as before, once one was moved to the other.
func TestGoingOnBehindMove(t *testing.T) {
	a := (&model{[][]int{{4, 1}, {2, 0, 3}}, 6}).make(t)
	wantErr(t, "Move", a.Move(1, 0), api.OK)
	wantErr(t, "Put behind what was moved", a.Put(0, 5), api.OK)
	if !a.Drop(1) || !a.Drop(2) {
		t.Error("Drop on both sides of where rows were joined")
	}
	wantErr(t, "Push into the row that was left", a.Push(1, 2), api.OK)
	wantErr(t, "Put into the row that was left", a.Put(1, 1), api.OK)
	same(t, a, 6, []int{4, 0, 3, 5}, []int{2, 1})
	wantErr(t, "Move back", a.Move(0, 1), api.OK)
	same(t, a, 6, nil, []int{2, 1, 4, 0, 3, 5})
}

// P2.3: Move, where it may not be, changes nothing; of no such row that is told, be they the same or not.
func TestMoveRefused(t *testing.T) {
	a := (&model{[][]int{{3, 1, 2}, {0}, nil}, 4}).make(t)
	for row := range 3 {
		wantErr(t, "Move of a row to itself", a.Move(row, row), api.ErrArg)
	}
	for _, no := range outside(3) {
		for row := range 3 {
			wantErr(t, "Move from no row", a.Move(no, row), api.ErrName)
			wantErr(t, "Move to no row", a.Move(row, no), api.ErrName)
		}
		wantErr(t, "Move of no row to itself", a.Move(no, no), api.ErrName)
		wantErr(t, "Move of no row to another one", a.Move(no, -3), api.ErrName)
	}
	same(t, a, 4, []int{3, 1, 2}, []int{0}, nil)
}

// P2.3: a list that was told is the asker's own.
func TestListIsNew(t *testing.T) {
	a := (&model{[][]int{{3, 1, 2}}, 4}).make(t)
	l := a.List(0)
	for i := range l {
		l[i] = 0
	}
	_ = append(l[:1], 0, 0)
	same(t, a, 4, []int{3, 1, 2})
	l = a.List(0)
	wantTake(t, a, 0, 3, true)
	if !slices.Equal(l, []int{3, 1, 2}) {
		t.Errorf("a list that was told earlier is %v now", l)
	}
}

// P2.1: two arenas have nothing in common.
func TestArenasAreApart(t *testing.T) {
	a, b := made(t, 2, 3), made(t, 2, 3)
	wantErr(t, "Put", a.Put(0, 1), api.OK)
	same(t, b, 3, nil, nil)
	wantErr(t, "Put", b.Put(1, 1), api.OK)
	same(t, a, 3, []int{1}, nil)
	same(t, b, 3, nil, []int{1})
}

// P2.1 to P2.3 at the greatest sizes.
func TestGreatest(t *testing.T) {
	a, m := made(t, 1000, 1000), newModel(1000, 1000)
	for node := range 1000 {
		wantErr(t, "Put", a.Put(999, node), m.put(999, node))
	}
	same(t, a, 1000, m.rows...)
	for node := 0; node < 1000; node += 3 {
		if a.Drop(node) != m.drop(node) {
			t.Errorf("Drop(%d)", node)
		}
		wantErr(t, "Push", a.Push(node, node), m.push(node, node))
	}
	same(t, a, 1000, m.rows...)
	wantErr(t, "Move", a.Move(999, 0), m.move(999, 0))
	same(t, a, 1000, m.rows...)
	for row := range 1000 {
		wantErr(t, "Move", a.Move(row, 500), m.move(row, 500))
	}
	same(t, a, 1000, m.rows...)
	for range 1001 {
		node, is := m.take(500)
		wantTake(t, a, 500, node, is)
	}
	same(t, a, 1000, make([][]int, 1000)...)
}

// step does one thing with an arena and with its model; what they answer must be the same.
func step(t *testing.T, a *ring.Arena, m *model, what, x, y int) {
	t.Helper()
	switch what {
	case 0:
		wantErr(t, "Put", a.Put(x, y), m.put(x, y))
	case 1:
		wantErr(t, "Push", a.Push(x, y), m.push(x, y))
	case 2:
		wantErr(t, "Move", a.Move(x, y), m.move(x, y))
	case 3:
		node, is := m.take(x)
		wantTake(t, a, x, node, is)
	case 4:
		if got, want := a.Drop(x), m.drop(x); got != want {
			t.Errorf("Drop(%d) = %t, want %t", x, got, want)
		}
	}
}

// arrangements are all ways in which so many nodes can stand in so many rows, or in none.
func arrangements(rows, nodes int) []*model {
	if nodes == 0 {
		return []*model{newModel(rows, 0)}
	}
	var all []*model
	for _, m := range arrangements(rows, nodes-1) {
		m.nodes = nodes
		all = append(all, m)
		for row, l := range m.rows {
			for place := range len(l) + 1 {
				c := m.clone()
				c.rows[row] = slices.Insert(c.rows[row], place, nodes-1)
				all = append(all, c)
			}
		}
	}
	return all
}

// P2.1 to P2.3: whatever is done in a small arena, from wherever its nodes stand, be it right or wrong.
func TestEveryStepOfSmallArenas(t *testing.T) {
	for _, size := range [][2]int{{1, 1}, {1, 3}, {2, 3}, {3, 2}} {
		rows, nodes := size[0], size[1]
		numbers := inAndOut(max(rows, nodes))
		for _, from := range arrangements(rows, nodes) {
			for what := range 5 {
				for _, x := range numbers {
					for _, y := range numbers {
						if what >= 3 && y != 0 {
							continue
						}
						a, m := from.make(t), from.clone()
						step(t, a, m, what, x, y)
						same(t, a, nodes, m.rows...)
						if t.Failed() {
							t.Fatalf("%v, then %d of %d, %d", from.rows, what, x, y)
						}
					}
				}
			}
		}
	}
}

// P2.1 to P2.3: long ways, on which nothing is left of what was.
func TestLongWays(t *testing.T) {
	for seed := range int64(40) {
		r := rand.New(rand.NewSource(seed))
		rows, nodes := 1+r.Intn(5), 1+r.Intn(12)
		a, m := made(t, rows, nodes), newModel(rows, nodes)
		for range 600 {
			what := r.Intn(5)
			x, y := r.Intn(rows+2)-1, r.Intn(nodes+2)-1
			if what == 4 {
				x = y
			}
			step(t, a, m, what, x, y)
			same(t, a, nodes, m.rows...)
			if t.Failed() {
				t.Fatalf("seed %d: %d of %d, %d", seed, what, x, y)
			}
		}
	}
}

// P2.4: who comes first is taken first, whoever comes between.
func TestWhoComesFirstIsTakenFirst(t *testing.T) {
	a := made(t, 2, 1000)
	came, taken := 0, 0
	for came < 1000 {
		wantErr(t, "Put", a.Put(1, came), api.OK)
		came++
		if came%3 == 0 {
			wantTake(t, a, 1, taken, true)
			taken++
		}
	}
	for ; taken < 1000; taken++ {
		wantTake(t, a, 1, taken, true)
	}
	wantTake(t, a, 1, none, false)
}

// P2.4: who is dropped is as one that never came, whoever else is there, and wherever it stood.
func TestWhoIsDroppedNeverCame(t *testing.T) {
	order := []int{4, 0, 3, 1, 2}
	for dropped := range 1 << len(order) {
		a, never := made(t, 1, 5), made(t, 1, 5)
		for _, node := range order {
			wantErr(t, "Put", a.Put(0, node), api.OK)
			if dropped>>node&1 == 0 {
				wantErr(t, "Put", never.Put(0, node), api.OK)
			}
		}
		for node := range 5 {
			if dropped>>node&1 == 1 && !a.Drop(node) {
				t.Errorf("Drop(%d): false", node)
			}
		}
		same(t, a, 5, never.List(0))
		for range 6 {
			node, is := never.Take(0)
			wantTake(t, a, 0, node, is)
		}
	}
}

// P2.4: a node stands in one row at most, wherever it is put and moved to.
func TestOneRowAtMost(t *testing.T) {
	a := made(t, 4, 3)
	for row := range 4 {
		for node := range 3 {
			want := api.ErrWaits
			if row == 0 {
				want = api.OK
			}
			wantErr(t, "Put", a.Put(row, node), want)
			wantErr(t, "Push", a.Push(row, node), api.ErrWaits)
		}
	}
	for row := range 3 {
		wantErr(t, "Move", a.Move(row, row+1), api.OK)
		places := make([]int, 3)
		for in := range 4 {
			for _, node := range a.List(in) {
				places[node]++
			}
		}
		if !slices.Equal(places, []int{1, 1, 1}) {
			t.Errorf("nodes stand in so many rows: %v", places)
		}
	}
	same(t, a, 3, nil, nil, nil, []int{0, 1, 2})
}
