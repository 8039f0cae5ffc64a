package tree_test

import (
	"math"
	"math/rand"
	"slices"
	"testing"

	"countermand/api"
	"countermand/tree"
)

const none = -1

type node struct {
	over int
	cut  bool
}

// model is a tree as plainly as the document says it: where each node stands, in the order in which they were added.
type model struct {
	most  int
	nodes []node
}

func (m *model) clone() *model { return &model{m.most, slices.Clone(m.nodes)} }

func (m *model) has(n int) bool { return 0 <= n && n < len(m.nodes) }

func (m *model) stand(x node) (int, api.Errno) {
	if len(m.nodes) >= m.most {
		return none, api.ErrFull
	}
	m.nodes = append(m.nodes, x)
	return len(m.nodes) - 1, api.OK
}

func (m *model) root() (int, api.Errno) { return m.stand(node{none, false}) }

func (m *model) add(over int, cut bool) (int, api.Errno) {
	if !m.has(over) {
		return none, api.ErrName
	}
	return m.stand(node{over, cut})
}

func (m *model) kids(n int) []int {
	var l []int
	for kid, x := range m.nodes {
		if m.has(n) && x.over == n {
			l = append(l, kid)
		}
	}
	return l
}

func (m *model) reach(n int) []int {
	if !m.has(n) {
		return nil
	}
	l := []int{n}
	for _, kid := range m.kids(n) {
		if !m.nodes[kid].cut {
			l = append(l, m.reach(kid)...)
		}
	}
	return l
}

func (m *model) chain(n int) []int {
	switch {
	case !m.has(n):
		return nil
	case m.nodes[n].cut || m.nodes[n].over == none:
		return []int{n}
	}
	return append([]int{n}, m.chain(m.nodes[n].over)...)
}

func (m *model) path(n int) []int {
	switch {
	case !m.has(n):
		return nil
	case m.nodes[n].over == none:
		return []int{n}
	}
	return append([]int{n}, m.path(m.nodes[n].over)...)
}

// outside are numbers of which there is no node, where there are so many.
func outside(many int) []int {
	return []int{-1, many, -2, many + 1, 201, 200 + many, 1 << 16, 1 << 32, -1 << 16, -1 << 32, math.MinInt, math.MaxInt}
}

func made(t *testing.T, most int) *tree.Tree {
	t.Helper()
	x, e := tree.New(most)
	if x == nil || e != api.OK {
		t.Fatalf("New(%d) = %v, %d", most, x, e)
	}
	return x
}

func wantRoot(t *testing.T, x *tree.Tree, want int, err api.Errno) {
	t.Helper()
	if n, e := x.Root(); n != want || e != err {
		t.Errorf("Root() = %d, %d, want %d, %d", n, e, want, err)
	}
}

func wantAdd(t *testing.T, x *tree.Tree, over int, cut bool, want int, err api.Errno) {
	t.Helper()
	if n, e := x.Add(over, cut); n != want || e != err {
		t.Errorf("Add(%d, %t) = %d, %d, want %d, %d", over, cut, n, e, want, err)
	}
}

// grown builds a tree whose nodes stand as they are written out, one by one.
func grown(t *testing.T, most int, nodes ...node) (*tree.Tree, *model) {
	t.Helper()
	x, m := made(t, most), &model{most, nodes}
	for n, at := range nodes {
		if at.over == none {
			wantRoot(t, x, n, api.OK)
		} else {
			wantAdd(t, x, at.over, at.cut, n, api.OK)
		}
	}
	return x, m
}

// told is all that a tree tells of one node.
type told struct {
	over                     int
	cut                      bool
	kids, reach, chain, path []int
}

func wantTold(t *testing.T, x *tree.Tree, n int, want told) {
	t.Helper()
	if over, cut := x.Over(n), x.Cut(n); over != want.over || cut != want.cut {
		t.Errorf("Over(%d), Cut(%d) = %d, %t, want %d, %t", n, n, over, cut, want.over, want.cut)
	}
	for _, c := range []struct {
		what      string
		got, want []int
	}{
		{"Kids", x.Kids(n), want.kids},
		{"Reach", x.Reach(n), want.reach},
		{"Chain", x.Chain(n), want.chain},
		{"Path", x.Path(n), want.path},
	} {
		if !slices.Equal(c.got, c.want) {
			t.Errorf("%s(%d) = %v, want %v", c.what, n, c.got, c.want)
		}
	}
}

// tells holds all that a tree tells against what is written out of each node, and against what isn't there.
func tells(t *testing.T, x *tree.Tree, want ...told) {
	t.Helper()
	if n := x.Len(); n != len(want) {
		t.Fatalf("Len() = %d, want %d", n, len(want))
	}
	for n, w := range want {
		wantTold(t, x, n, w)
	}
	for _, n := range outside(len(want)) {
		wantTold(t, x, n, told{over: none})
	}
}

// same holds all that a tree tells against its model.
func same(t *testing.T, x *tree.Tree, m *model) {
	t.Helper()
	var want []told
	for n, at := range m.nodes {
		want = append(want, told{at.over, at.cut, m.kids(n), m.reach(n), m.chain(n), m.path(n)})
	}
	tells(t, x, want...)
}

// numbers are those from one number up to another one, or down to it.
func numbers(from, to int) []int {
	l := []int{from}
	for n := from; n != to; l = append(l, n) {
		if n < to {
			n++
		} else {
			n--
		}
	}
	return l
}

// P5.1: of each size there may be, just so many nodes may be there.
func TestNew(t *testing.T) {
	for most := 1; most <= 200; most++ {
		x := made(t, most)
		tells(t, x)
		for n := range most {
			wantRoot(t, x, n, api.OK)
			if l := x.Len(); l != n+1 {
				t.Errorf("Len() = %d behind %d nodes", l, n+1)
			}
		}
		wantRoot(t, x, none, api.ErrFull)
		wantAdd(t, x, 0, false, none, api.ErrFull)
		if l := x.Len(); l != most {
			t.Errorf("Len() = %d of a full tree of %d", l, most)
		}
	}
}

// P5.1
func TestNewOfWrongSizes(t *testing.T) {
	for _, most := range []int{
		0, -1, -2, -200, 201, 202, 255, 256, 257, 1000, 1 << 16, 1<<16 + 1, 1<<32 + 1, -1 << 32, math.MinInt, math.MinInt + 1, math.MaxInt,
	} {
		if x, e := tree.New(most); x != nil || e != api.ErrArg {
			t.Errorf("New(%d) = %v, %d, want nil, %d", most, x, e, api.ErrArg)
		}
	}
}

// P5.1, P5.2: where there is no node, there is none to add one below, and nothing is told of any.
func TestWithoutNodes(t *testing.T) {
	for _, most := range []int{1, 8, 200} {
		x := made(t, most)
		tells(t, x)
		for _, over := range append(outside(0), outside(most)...) {
			wantAdd(t, x, over, false, none, api.ErrName)
			wantAdd(t, x, over, true, none, api.ErrName)
		}
		tells(t, x)
		wantRoot(t, x, 0, api.OK)
		tells(t, x, told{over: none, reach: []int{0}, chain: []int{0}, path: []int{0}})
	}
}

// P5.1: as many as there may be stand below none, and reach nobody but themselves.
func TestRoot(t *testing.T) {
	x := made(t, 3)
	var want []told
	for n := range 3 {
		wantRoot(t, x, n, api.OK)
		want = append(want, told{none, false, nil, []int{n}, []int{n}, []int{n}})
		tells(t, x, want...)
	}
	wantRoot(t, x, none, api.ErrFull)
	tells(t, x, want...)
}

// P5.1: below a node, be it cut or not, and ahead of others or behind them.
func TestAdd(t *testing.T) {
	x := made(t, 6)
	wantRoot(t, x, 0, api.OK)
	wantAdd(t, x, 0, true, 1, api.OK)
	wantAdd(t, x, 1, true, 2, api.OK)
	wantRoot(t, x, 3, api.OK)
	wantAdd(t, x, 1, false, 4, api.OK)
	wantAdd(t, x, 3, false, 5, api.OK)
	tells(t, x,
		told{none, false, []int{1}, []int{0}, []int{0}, []int{0}},
		told{0, true, []int{2, 4}, []int{1, 4}, []int{1}, []int{1, 0}},
		told{1, true, nil, []int{2}, []int{2}, []int{2, 1, 0}},
		told{none, false, []int{5}, []int{3, 5}, []int{3}, []int{3}},
		told{1, false, nil, []int{4}, []int{4, 1}, []int{4, 1, 0}},
		told{3, false, nil, []int{5}, []int{5, 3}, []int{5, 3}},
	)
}

// P5.1: what may not be added changes nothing; in a full tree, too, it is told first that there is no such node.
func TestAddRefused(t *testing.T) {
	nodes := []node{{none, false}, {0, true}, {1, false}, {none, false}}
	for _, most := range []int{4, 5, 200} {
		x, m := grown(t, most, nodes...)
		for _, cut := range []bool{false, true} {
			for _, over := range append(outside(4), most, most+1) {
				wantAdd(t, x, over, cut, none, api.ErrName)
			}
		}
		same(t, x, m)
	}
	x, m := grown(t, 4, nodes...)
	for over := range 4 {
		wantAdd(t, x, over, false, none, api.ErrFull)
		wantAdd(t, x, over, true, none, api.ErrFull)
		wantRoot(t, x, none, api.ErrFull)
		same(t, x, m)
	}
}

// P5.1: numbers count on over what was refused, and over nothing else.
func TestNumbers(t *testing.T) {
	x := made(t, 3)
	wantAdd(t, x, 0, false, none, api.ErrName)
	wantRoot(t, x, 0, api.OK)
	wantAdd(t, x, 1, false, none, api.ErrName)
	wantAdd(t, x, -1, true, none, api.ErrName)
	wantAdd(t, x, 0, true, 1, api.OK)
	wantAdd(t, x, 2, false, none, api.ErrName)
	wantRoot(t, x, 2, api.OK)
	wantAdd(t, x, 2, false, none, api.ErrFull)
	wantAdd(t, x, 3, false, none, api.ErrName)
	same(t, x, &model{3, []node{{none, false}, {0, true}, {none, false}}})
}

// P5.1: a tree of one node is full with it.
func TestOneNode(t *testing.T) {
	x := made(t, 1)
	want := told{none, false, nil, []int{0}, []int{0}, []int{0}}
	wantRoot(t, x, 0, api.OK)
	wantAdd(t, x, 0, false, none, api.ErrFull)
	wantAdd(t, x, 1, false, none, api.ErrName)
	wantRoot(t, x, none, api.ErrFull)
	tells(t, x, want)
}

// P5.2: a cut one hides itself and all below it from those over it; it reaches those below it itself.
func TestCut(t *testing.T) {
	for _, c := range []struct {
		what  string
		nodes []node
		want  []told
	}{
		{"below a root, with nobody below it", []node{{none, false}, {0, true}}, []told{
			{none, false, []int{1}, []int{0}, []int{0}, []int{0}},
			{0, true, nil, []int{1}, []int{1}, []int{1, 0}},
		}},
		{"below a root, with one below it", []node{{none, false}, {0, true}, {1, false}}, []told{
			{none, false, []int{1}, []int{0}, []int{0}, []int{0}},
			{0, true, []int{2}, []int{1, 2}, []int{1}, []int{1, 0}},
			{1, false, nil, []int{2}, []int{2, 1}, []int{2, 1, 0}},
		}},
		{"below one that is cut", []node{{none, false}, {0, true}, {1, true}, {2, false}}, []told{
			{none, false, []int{1}, []int{0}, []int{0}, []int{0}},
			{0, true, []int{2}, []int{1}, []int{1}, []int{1, 0}},
			{1, true, []int{3}, []int{2, 3}, []int{2}, []int{2, 1, 0}},
			{2, false, nil, []int{3}, []int{3, 2}, []int{3, 2, 1, 0}},
		}},
		{"at the end of a way", []node{{none, false}, {0, false}, {1, false}, {2, true}}, []told{
			{none, false, []int{1}, []int{0, 1, 2}, []int{0}, []int{0}},
			{0, false, []int{2}, []int{1, 2}, []int{1, 0}, []int{1, 0}},
			{1, false, []int{3}, []int{2}, []int{2, 1, 0}, []int{2, 1, 0}},
			{2, true, nil, []int{3}, []int{3}, []int{3, 2, 1, 0}},
		}},
		{"in the middle of a way", []node{{none, false}, {0, false}, {1, true}, {2, false}, {3, false}}, []told{
			{none, false, []int{1}, []int{0, 1}, []int{0}, []int{0}},
			{0, false, []int{2}, []int{1}, []int{1, 0}, []int{1, 0}},
			{1, true, []int{3}, []int{2, 3, 4}, []int{2}, []int{2, 1, 0}},
			{2, false, []int{4}, []int{3, 4}, []int{3, 2}, []int{3, 2, 1, 0}},
			{3, false, nil, []int{4}, []int{4, 3, 2}, []int{4, 3, 2, 1, 0}},
		}},
		{"between others", []node{{none, false}, {0, false}, {0, true}, {0, false}, {2, false}, {0, true}}, []told{
			{none, false, []int{1, 2, 3, 5}, []int{0, 1, 3}, []int{0}, []int{0}},
			{0, false, nil, []int{1}, []int{1, 0}, []int{1, 0}},
			{0, true, []int{4}, []int{2, 4}, []int{2}, []int{2, 0}},
			{0, false, nil, []int{3}, []int{3, 0}, []int{3, 0}},
			{2, false, nil, []int{4}, []int{4, 2}, []int{4, 2, 0}},
			{0, true, nil, []int{5}, []int{5}, []int{5, 0}},
		}},
	} {
		t.Run(c.what, func(t *testing.T) {
			x, _ := grown(t, 200, c.nodes...)
			tells(t, x, c.want...)
		})
	}
}

// P5.2: what one below reaches is told whole, ahead of the next one below; not all of one depth ahead of the next depth,
// and not by their numbers.
func TestOrder(t *testing.T) {
	x, _ := grown(t, 9,
		node{none, false}, node{0, false}, node{0, false}, node{2, false}, node{1, false},
		node{0, false}, node{1, false}, node{4, false}, node{2, false})
	tells(t, x,
		told{none, false, []int{1, 2, 5}, []int{0, 1, 4, 7, 6, 2, 3, 8, 5}, []int{0}, []int{0}},
		told{0, false, []int{4, 6}, []int{1, 4, 7, 6}, []int{1, 0}, []int{1, 0}},
		told{0, false, []int{3, 8}, []int{2, 3, 8}, []int{2, 0}, []int{2, 0}},
		told{2, false, nil, []int{3}, []int{3, 2, 0}, []int{3, 2, 0}},
		told{1, false, []int{7}, []int{4, 7}, []int{4, 1, 0}, []int{4, 1, 0}},
		told{0, false, nil, []int{5}, []int{5, 0}, []int{5, 0}},
		told{1, false, nil, []int{6}, []int{6, 1, 0}, []int{6, 1, 0}},
		told{4, false, nil, []int{7}, []int{7, 4, 1, 0}, []int{7, 4, 1, 0}},
		told{2, false, nil, []int{8}, []int{8, 2, 0}, []int{8, 2, 0}},
	)
}

// P5.2: nobody reaches, or comes to, what stands below another one that stands below none.
func TestSeveralRoots(t *testing.T) {
	x, _ := grown(t, 7,
		node{none, false}, node{none, false}, node{1, false}, node{0, false}, node{none, false}, node{2, true}, node{0, true})
	tells(t, x,
		told{none, false, []int{3, 6}, []int{0, 3}, []int{0}, []int{0}},
		told{none, false, []int{2}, []int{1, 2}, []int{1}, []int{1}},
		told{1, false, []int{5}, []int{2}, []int{2, 1}, []int{2, 1}},
		told{0, false, nil, []int{3}, []int{3, 0}, []int{3, 0}},
		told{none, false, nil, []int{4}, []int{4}, []int{4}},
		told{2, true, nil, []int{5}, []int{5}, []int{5, 2, 1}},
		told{0, true, nil, []int{6}, []int{6}, []int{6, 0}},
	)
}

// The example of the document.
func TestExample(t *testing.T) {
	x, _ := grown(t, 4, node{none, false}, node{0, false}, node{1, true}, node{0, false})
	if l := x.Reach(0); !slices.Equal(l, []int{0, 1, 3}) {
		t.Errorf("Reach(0) = %v", l)
	}
	if l := x.Path(2); !slices.Equal(l, []int{2, 1, 0}) {
		t.Errorf("Path(2) = %v", l)
	}
}

// P5.2: 200 nodes, one below the other; none of them is cut, or one.
func TestLongestWay(t *testing.T) {
	for _, cut := range []int{none, 1, 2, 100, 198, 199} {
		nodes := []node{{none, false}}
		var want []told
		for n := range 200 {
			w := told{n - 1, n == cut, []int{n + 1}, numbers(n, 199), numbers(n, 0), numbers(n, 0)}
			if n == 199 {
				w.kids = nil
			} else {
				nodes = append(nodes, node{n, n+1 == cut})
			}
			if n < cut {
				w.reach = numbers(n, cut-1)
			} else if cut != none {
				w.chain = numbers(n, cut)
			}
			want = append(want, w)
		}
		x, m := grown(t, 200, nodes...)
		tells(t, x, want...)
		wantAdd(t, x, 199, false, none, api.ErrFull)
		wantAdd(t, x, 200, false, none, api.ErrName)
		same(t, x, m)
	}
}

// P5.2: 199 nodes below one; none of them is cut, each third one, or all.
func TestWidest(t *testing.T) {
	for _, each := range []int{200, 3, 1} {
		nodes := []node{{none, false}}
		top := told{none, false, nil, []int{0}, []int{0}, []int{0}}
		want := []told{top}
		for n := 1; n < 200; n++ {
			w := told{0, n%each == 0, nil, []int{n}, []int{n, 0}, []int{n, 0}}
			if w.cut {
				w.chain = []int{n}
			} else {
				top.reach = append(top.reach, n)
			}
			top.kids = append(top.kids, n)
			nodes, want = append(nodes, node{0, w.cut}), append(want, w)
		}
		want[0] = top
		x, m := grown(t, 200, nodes...)
		tells(t, x, want...)
		wantAdd(t, x, 0, false, none, api.ErrFull)
		wantRoot(t, x, none, api.ErrFull)
		same(t, x, m)
	}
}

// lists are all lists that a tree tells of one node.
func lists(x *tree.Tree, n int) [][]int { return [][]int{x.Kids(n), x.Reach(n), x.Chain(n), x.Path(n)} }

// R3: who got a list may change it, and add to it, without the tree's knowing.
func TestListsAreNew(t *testing.T) {
	x, m := grown(t, 12,
		node{none, false}, node{0, false}, node{0, true}, node{0, false}, node{1, false}, node{4, false}, node{2, false})
	for n := range 7 {
		for i, l := range lists(x, n) {
			again := lists(x, n)[i]
			was := slices.Clone(again)
			for i := range l {
				l[i] = 99
			}
			l = append(l, 99, 99)
			_ = append(l[:len(l)/2], 99, 99)
			_ = append(l[:0], 99)
			if !slices.Equal(again, was) {
				t.Errorf("list %d of %d is %v now, was %v", i, n, again, was)
			}
			same(t, x, m)
		}
	}
}

// R3: lists that were told stay as they are, whatever is added later, or is added to them ahead of that.
func TestListsStay(t *testing.T) {
	for many := range 12 {
		x, m := grown(t, 200, node{none, false}, node{0, false})
		for range many {
			n, e := m.add(1, false)
			wantAdd(t, x, 1, false, n, e)
		}
		var got, were [][]int
		for n := range len(m.nodes) {
			got = append(got, lists(x, n)...)
		}
		for i, l := range got {
			were = append(were, slices.Clone(l))
			_ = append(got[i], 99, 99, 99)
		}
		for over := range len(m.nodes) {
			n, e := m.add(over, over%2 == 1)
			wantAdd(t, x, over, over%2 == 1, n, e)
		}
		same(t, x, m)
		for i, l := range got {
			if !slices.Equal(l, were[i]) {
				t.Errorf("list %d of %d nodes is %v now, was %v", i, many+2, l, were[i])
			}
		}
	}
}

// R5: trees share nothing.
func TestTreesAreApart(t *testing.T) {
	x, a := grown(t, 3, node{none, false}, node{0, true})
	y, b := grown(t, 200, node{none, false}, node{none, false}, node{1, false}, node{2, false})
	wantAdd(t, x, 2, false, none, api.ErrName)
	wantAdd(t, x, 1, false, 2, api.OK)
	wantRoot(t, x, none, api.ErrFull)
	a.nodes = append(a.nodes, node{1, false})
	same(t, x, a)
	same(t, y, b)
	wantAdd(t, y, 3, true, 4, api.OK)
	same(t, x, a)
}

// follows holds what a tree tells against what P5.3 says of it.
func follows(t *testing.T, x *tree.Tree) {
	t.Helper()
	many := x.Len()
	for n := range many {
		reach := x.Reach(n)
		for m := range many {
			times := 0
			for _, r := range reach {
				if r == m {
					times++
				}
			}
			if times > 1 {
				t.Errorf("%d reaches %d %d times", n, m, times)
			}
			if is := slices.Contains(x.Chain(m), n); is != (times > 0) {
				t.Errorf("%d is in the chain of %d: %t; is reached: %t", n, m, is, times > 0)
			}
		}
		chain, path := x.Chain(n), x.Path(n)
		if len(chain) > len(path) || !slices.Equal(chain, path[:len(chain)]) {
			t.Errorf("of %d the chain is %v, the path %v", n, chain, path)
			continue
		}
		if end := chain[len(chain)-1]; len(chain) < len(path) != (x.Cut(end) && x.Over(end) != none) {
			t.Errorf("of %d the chain %v ends at %d, the path is %v", n, chain, end, path)
		}
		if top := path[len(path)-1]; x.Over(top) != none {
			t.Errorf("of %d the path %v ends below %d", n, path, x.Over(top))
		}
	}
}

// everyTree builds every tree of so many nodes and fewer, from each one of one node less.
func everyTree(nodes []node, most int, do func(nodes []node)) {
	do(nodes)
	if len(nodes) == most {
		return
	}
	nodes = slices.Clip(nodes)
	everyTree(append(nodes, node{none, false}), most, do)
	for over := range nodes {
		everyTree(append(nodes, node{over, false}), most, do)
		everyTree(append(nodes, node{over, true}), most, do)
	}
}

// P5.1 to P5.3: every small tree, and every step from it, be it right or wrong.
func TestEveryStepOfSmallTrees(t *testing.T) {
	everyTree(nil, 4, func(nodes []node) {
		for over := -2; over <= len(nodes)+1; over++ {
			for what := range 6 {
				most := max(len(nodes)+what/3, 1)
				x, m := grown(t, most, slices.Clone(nodes)...)
				if what%3 == 2 {
					n, e := m.root()
					wantRoot(t, x, n, e)
				} else {
					n, e := m.add(over, what%3 == 1)
					wantAdd(t, x, over, what%3 == 1, n, e)
				}
				same(t, x, m)
				if t.Failed() {
					t.Fatalf("of %v: %d, %d", nodes, what, over)
				}
			}
		}
	})
}

// P5.3
func TestFollowsInEverySmallTree(t *testing.T) {
	everyTree(nil, 6, func(nodes []node) {
		x, m := grown(t, 6, nodes...)
		same(t, x, m)
		follows(t, x)
		if t.Failed() {
			t.Fatalf("of %v", nodes)
		}
	})
}

// step adds one to a tree and to its model: at a place there is mostly, among the last ones or among all.
func step(t *testing.T, r *rand.Rand, x *tree.Tree, m *model, deep bool) {
	t.Helper()
	if r.Intn(12) == 0 {
		n, e := m.root()
		wantRoot(t, x, n, e)
		return
	}
	over, cut := r.Intn(len(m.nodes)+3)-1, r.Intn(5) == 0
	if deep && len(m.nodes) > 0 {
		over = len(m.nodes) - 1 - r.Intn(min(3, len(m.nodes)))
	}
	n, e := m.add(over, cut)
	wantAdd(t, x, over, cut, n, e)
}

// P5.1 to P5.3: long ways till a tree is full and beyond, on which it and its model answer the same.
func TestLongWays(t *testing.T) {
	for seed := range int64(40) {
		r := rand.New(rand.NewSource(seed))
		m := &model{most: 1 + r.Intn(200)}
		if seed%4 == 0 {
			m.most = 200
		}
		x := made(t, m.most)
		for i := range m.most * 5 / 4 {
			step(t, r, x, m, seed%2 == 0)
			if i%16 == 0 {
				same(t, x, m)
			}
			if t.Failed() {
				t.Fatalf("seed %d: step %d", seed, i)
			}
		}
		same(t, x, m)
		follows(t, x)
		if t.Failed() {
			t.Fatalf("seed %d", seed)
		}
	}
}

// R4: the same calls answer the same, and asking changes nothing.
func TestTwins(t *testing.T) {
	for seed := range int64(10) {
		m := &model{most: 60}
		x, y := made(t, 60), made(t, 60)
		for i := range int64(70) {
			for n := -1; n <= len(m.nodes); n++ {
				lists(x, n)
			}
			was := m.clone()
			step(t, rand.New(rand.NewSource(seed<<8+i)), x, m, i%3 == 0)
			step(t, rand.New(rand.NewSource(seed<<8+i)), y, was, i%3 == 0)
		}
		same(t, x, m)
		same(t, y, m)
	}
}
