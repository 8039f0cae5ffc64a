package script_test

import (
	"bytes"
	"encoding/binary"
	"math"
	"math/rand"
	"slices"
	"testing"

	"countermand/api"
	"countermand/code"
	"countermand/script"
)

const (
	least = math.MinInt64
	top   = math.MaxInt64
	head  = 33   // as many bytes rooms have, and how many programs there are
	one   = 10   // as many bytes an item has
	most  = 4000 // as many bytes a script may have
)

// kind is what the document says of an item's kind: the greatest A, and from where to where N goes.
type kind struct {
	do, is int
	a      int
	from   int64
	to     int64
}

var kinds = []kind{{0, script.Begin, 7, 0, 0}, {1, script.Pick, 15, 0, 0}, {2, script.Clock, 0, least, top}}

// right is Right as plainly as the document says it.
func right(x script.Item) bool {
	for _, k := range kinds {
		if k.do == x.Do {
			return 0 <= x.A && x.A <= k.a && k.from <= x.N && x.N <= k.to
		}
	}
	return false
}

// sizeOf is how many bytes a script has.
func sizeOf(s script.Script) int {
	size := head + one*len(s.Items)
	for _, p := range s.Programs {
		size += 1 + 11*len(p)
	}
	return size
}

// may is May as plainly as the document says it.
func may(s script.Script) bool {
	for _, room := range s.Rooms {
		if room < 0 {
			return false
		}
	}
	for _, p := range s.Programs {
		if !code.May(p) {
			return false
		}
	}
	for _, x := range s.Items {
		if !right(x) {
			return false
		}
	}
	return 1 <= len(s.Programs) && len(s.Programs) <= 8 && len(s.Items) <= 200 && sizeOf(s) <= most
}

// told are a script's bytes, be it right or wrong.
func told(s script.Script) []byte {
	var b []byte
	for _, room := range s.Rooms {
		b = binary.BigEndian.AppendUint64(b, uint64(room))
	}
	b = append(b, byte(len(s.Programs)))
	for _, p := range s.Programs {
		b = append(b, byte(len(p)))
		for _, x := range p {
			b = append(b, byte(x.Op), byte(x.A), byte(x.B))
			b = binary.BigEndian.AppendUint64(b, uint64(x.N))
		}
	}
	for _, x := range s.Items {
		b = append(b, byte(x.Do), byte(x.A))
		b = binary.BigEndian.AppendUint64(b, uint64(x.N))
	}
	return b
}

// readOf is Read as plainly as the document says it.
func readOf(b []byte) (script.Script, api.Errno) {
	var s script.Script
	if len(b) > most {
		return s, api.ErrLong
	}
	if len(b) < head {
		return s, api.ErrShort
	}
	for i := range s.Rooms {
		if s.Rooms[i] = int64(binary.BigEndian.Uint64(b[8*i:])); s.Rooms[i] < 0 {
			return s, api.ErrForm
		}
	}
	many := int(b[32])
	if many == 0 || many > 8 {
		return s, api.ErrForm
	}
	b = b[head:]
	for len(s.Programs) < many {
		p, size, e := code.Read(b)
		if e != api.OK {
			return s, e
		}
		s.Programs, b = append(s.Programs, p), b[size:]
	}
	if len(b)%one != 0 {
		return s, api.ErrShort
	}
	for ; len(b) > 0; b = b[one:] {
		x := script.Item{Do: int(b[0]), A: int(b[1]), N: int64(binary.BigEndian.Uint64(b[2:]))}
		if s.Items = append(s.Items, x); !right(x) || len(s.Items) > 200 {
			return s, api.ErrForm
		}
	}
	return s, api.OK
}

// same is Same as plainly as the document says it.
func same(a, b script.Script) bool {
	return slices.Equal(a.Rooms[:], b.Rooms[:]) && slices.EqualFunc(a.Programs, b.Programs, slices.Equal) && slices.Equal(a.Items, b.Items)
}

// dos are numbers to try as a kind; some of them are one but for what is above a byte, or but for their sign.
func dos() []int {
	return []int{
		0, 1, 2, -1, 3, 4, -2, -3, 127, 128, 254, 255, 256, 257, 258, 259, -254, -255, -256, 1 << 16, 1<<32 + 1, 1<<32 + 2, -1 << 32,
		math.MinInt, math.MinInt + 1, math.MaxInt - 1, math.MaxInt,
	}
}

// parts are numbers to try as A, as N, or as a room: around each bound, and around those of bytes and of words.
func parts() []int64 {
	return []int64{
		0, 1, 2, 6, 7, 8, 9, 14, 15, 16, 17, 127, 128, 255, 256, 257, 258, 1 << 16, 1<<31 - 1, 1 << 31, 1 << 32, 1<<32 + 1, top - 1, top,
		-1, -2, -7, -8, -15, -16, -128, -255, -256, -257, -1 << 16, -1 << 31, -1 << 32, -1<<32 + 1, least + 1, least,
	}
}

func wantRight(t *testing.T, x script.Item, want bool) {
	t.Helper()
	if is := script.Right(x); is != want {
		t.Errorf("Right(%v) = %t, want %t", x, is, want)
	}
}

func wantMay(t *testing.T, s script.Script, want bool) {
	t.Helper()
	if is := script.May(s); is != want {
		t.Errorf("May(%v) = %t, want %t", s, is, want)
	}
}

func wantSame(t *testing.T, a, b script.Script, want bool) {
	t.Helper()
	if is := script.Same(a, b); is != want {
		t.Errorf("Same(%v, %v) = %t, want %t", a, b, is, want)
	}
	if is := script.Same(b, a); is != want {
		t.Errorf("Same(%v, %v) = %t, want %t", b, a, is, want)
	}
}

func wantBytes(t *testing.T, s script.Script, want ...byte) {
	t.Helper()
	if b, e := script.Bytes(s); !bytes.Equal(b, want) || e != api.OK {
		t.Errorf("Bytes(%v) = %v, %d, want %v, %d", s, b, e, want, api.OK)
	}
}

// wantNoBytes asks for the bytes of a script that may not be.
func wantNoBytes(t *testing.T, s script.Script) {
	t.Helper()
	if b, e := script.Bytes(s); len(b) != 0 || e != api.ErrArg {
		t.Errorf("Bytes(%v) = %v, %d, want none, %d", s, b, e, api.ErrArg)
	}
}

// wantNone asks whether a script that may not be is, and for its bytes.
func wantNone(t *testing.T, s script.Script) {
	t.Helper()
	wantMay(t, s, false)
	wantNoBytes(t, s)
}

// wantComesBack asks for the bytes of a script that may be, and reads them.
func wantComesBack(t *testing.T, s script.Script) {
	t.Helper()
	wantMay(t, s, true)
	wantBytes(t, s, told(s)...)
	wantRead(t, told(s), s)
}

func wantRead(t *testing.T, b []byte, want script.Script) {
	t.Helper()
	if s, e := script.Read(b); !same(s, want) || e != api.OK {
		t.Errorf("Read(%v) = %v, %d, want %v, %d", b, s, e, want, api.OK)
	}
}

// wantNoRead reads bytes in which no script stands.
func wantNoRead(t *testing.T, b []byte, want api.Errno) {
	t.Helper()
	if s, e := script.Read(b); !same(s, script.Script{}) || e != want {
		t.Errorf("Read(%v) = %v, %d, want none, %d", b, s, e, want)
	}
}

// wantReadAsSaid holds what is read against the document's words.
func wantReadAsSaid(t *testing.T, b []byte) {
	t.Helper()
	s, e := readOf(b)
	if e != api.OK {
		wantNoRead(t, b, e)
		return
	}
	wantRead(t, b, s)
}

// bytesOf asks for the bytes of a script that may be.
func bytesOf(t *testing.T, s script.Script) []byte {
	t.Helper()
	b, e := script.Bytes(s)
	if e != api.OK {
		t.Fatalf("Bytes(%v) = %v, %d", s, b, e)
	}
	return b
}

// put is a list with another one at a place.
func put[T any](l []T, at int, x T) []T {
	l = slices.Clone(l)
	l[at] = x
	return l
}

// copied is a script that shares nothing with another one.
func copied(s script.Script) script.Script {
	s.Programs, s.Items = slices.Clone(s.Programs), slices.Clone(s.Items)
	for i, p := range s.Programs {
		s.Programs[i] = slices.Clone(p)
	}
	return s
}

// changed is a copy of a script, with which something is done.
func changed(s script.Script, change func(s *script.Script)) script.Script {
	s = copied(s)
	change(&s)
	return s
}

// halts are programs of so many instructions, each of them all 0.
func halts(many ...int) [][]code.Instr {
	var l [][]code.Instr
	for _, n := range many {
		l = append(l, make([]code.Instr, n))
	}
	return l
}

// begins are so many items, each of them all 0.
func begins(many int) []script.Item { return make([]script.Item, many) }

// plain is a script of these many programs and items, all 0.
func plain(programs, items int) script.Script {
	return script.Script{Programs: halts(slices.Repeat([]int{1}, programs)...), Items: begins(items)}
}

// mixed is a script that may be, with each kind of part at its greatest.
func mixed() script.Script {
	return script.Script{
		Rooms:    [4]int64{5, 0, top, 258},
		Programs: [][]code.Instr{{{Op: code.Set, A: 5, N: least}, {Op: code.Zero, N: 2}}, {{}}, {{Op: code.Go, A: 1, B: 7, N: 3}}},
		Items:    []script.Item{{Do: script.Begin, A: 7}, {Do: script.Pick, A: 15}, {Do: script.Clock, N: -1}, {}, {Do: script.Clock, N: least}},
	}
}

// brimful is a script of just as many bytes as may be.
func brimful() script.Script {
	s := script.Script{Rooms: [4]int64{1, 2, 3, 4}, Programs: halts(24, 24, 24, 24, 24, 24, 24, 21), Items: begins(188)}
	s.Items[187] = script.Item{Do: script.Clock, N: -1}
	return s
}

// wrongItems are items that may not be, each but for one part.
func wrongItems() []script.Item {
	return []script.Item{
		{Do: 3}, {Do: -1}, {Do: 255}, {Do: 256}, {A: 8}, {A: -1}, {A: 256}, {N: 1}, {N: -1}, {N: least}, {Do: script.Pick, A: 16}, {Do: script.Pick, A: -1},
		{Do: script.Pick, N: 1}, {Do: script.Pick, A: 3, N: -1}, {Do: script.Clock, A: 1}, {Do: script.Clock, A: -1, N: 7}, {Do: math.MaxInt}, {Do: math.MinInt},
	}
}

// wrongPrograms are programs that may not be.
func wrongPrograms() [][]code.Instr {
	return [][]code.Instr{
		nil, {}, make([]code.Instr, 25), make([]code.Instr, 256+1), {{Op: 47}}, {{Op: -1}}, {{}, {A: 1}}, {{Op: code.Zero, N: 2}}, {{Op: code.Lock, N: 4}, {}},
		{{Op: code.Set, A: 6}}, {{Op: 256}},
	}
}

// anyInstr is an instruction that may be in a program of that length.
func anyInstr(r *rand.Rand, long int) code.Instr {
	op := r.Intn(47)
	most := map[byte]int64{'r': 5, 'o': 3, 'p': 7, 'j': int64(long)}
	part := func(i int) int64 {
		letter := code.Form(op)[i]
		if letter == 'n' {
			return anyNumber(r)
		}
		return r.Int63n(most[letter] + 1)
	}
	return code.Instr{Op: op, A: int(part(0)), B: int(part(1)), N: part(2)}
}

func anyNumber(r *rand.Rand) int64 { return int64(r.Uint64()) >> r.Intn(64) }

func anyProgram(r *rand.Rand) []code.Instr {
	l := make([]code.Instr, 1+r.Intn(1+r.Intn(24)))
	for i := range l {
		l[i] = anyInstr(r, len(l))
	}
	return l
}

func anyItem(r *rand.Rand) script.Item {
	switch k := kinds[r.Intn(3)]; k.do {
	case 2:
		return script.Item{Do: k.do, N: anyNumber(r)}
	default:
		return script.Item{Do: k.do, A: r.Intn(k.a + 1)}
	}
}

// anyScript is a script of up to so many programs and items that may be.
func anyScript(r *rand.Rand, programs, items int) script.Script {
	var s script.Script
	for i := range s.Rooms {
		s.Rooms[i] = anyNumber(r) & top
	}
	for range 1 + r.Intn(programs) {
		s.Programs = append(s.Programs, anyProgram(r))
	}
	for range r.Intn(items + 1) {
		s.Items = append(s.Items, anyItem(r))
	}
	for sizeOf(s) > most {
		s.Items = s.Items[1:]
	}
	return s
}

// The document's example.
func TestExample(t *testing.T) {
	s := script.Script{Programs: halts(1), Items: []script.Item{{Do: script.Clock, N: 258}}}
	b := append(make([]byte, 32), 1, 1, 0, 0, 0, 0, 0, 0, 0, 0, 0, 0, 0, 2, 0, 0, 0, 0, 0, 0, 0, 1, 2)
	wantMay(t, s, true)
	wantBytes(t, s, b...)
	wantRead(t, b, s)
}

// P17.1: each kind, written out.
func TestRight(t *testing.T) {
	for _, k := range kinds {
		if k.is != k.do {
			t.Errorf("a kind is %d, want %d", k.is, k.do)
		}
	}
	for _, c := range []struct {
		x    script.Item
		want bool
	}{
		{script.Item{}, true},
		{script.Item{A: 7}, true},
		{script.Item{A: 8}, false},
		{script.Item{A: -1}, false},
		{script.Item{A: 15}, false},
		{script.Item{A: 256}, false},
		{script.Item{A: 1 << 32}, false},
		{script.Item{N: 1}, false},
		{script.Item{N: -1}, false},
		{script.Item{N: 1 << 32}, false},
		{script.Item{Do: script.Pick}, true},
		{script.Item{Do: script.Pick, A: 8}, true},
		{script.Item{Do: script.Pick, A: 15}, true},
		{script.Item{Do: script.Pick, A: 16}, false},
		{script.Item{Do: script.Pick, A: -1}, false},
		{script.Item{Do: script.Pick, A: 15, N: 1}, false},
		{script.Item{Do: script.Pick, N: -1}, false},
		{script.Item{Do: script.Pick, N: least}, false},
		{script.Item{Do: script.Clock}, true},
		{script.Item{Do: script.Clock, N: 1}, true},
		{script.Item{Do: script.Clock, N: -1}, true},
		{script.Item{Do: script.Clock, N: top}, true},
		{script.Item{Do: script.Clock, N: least}, true},
		{script.Item{Do: script.Clock, A: 1}, false},
		{script.Item{Do: script.Clock, A: -1, N: 1}, false},
		{script.Item{Do: 3}, false},
		{script.Item{Do: 3, N: 1}, false},
		{script.Item{Do: -1}, false},
		{script.Item{Do: 258, N: 1}, false},
		{script.Item{Do: math.MaxInt}, false},
		{script.Item{Do: math.MinInt}, false},
	} {
		wantRight(t, c.x, c.want)
	}
}

// P17.1: each part alone, at its ends and beyond them; all others are 0, which each of them may be.
func TestEachPartAlone(t *testing.T) {
	for _, k := range kinds {
		for _, a := range []int{-1, 0, 1, k.a - 1, k.a, k.a + 1, math.MinInt, math.MaxInt} {
			wantRight(t, script.Item{Do: k.do, A: a}, 0 <= a && a <= k.a)
		}
		for _, n := range []int64{0, k.from, k.to, k.from - 1, k.to + 1, 1, -1, least, top} {
			wantRight(t, script.Item{Do: k.do, N: n}, k.from <= n && n <= k.to)
		}
	}
	for do := -1000; do < 1000; do++ {
		wantRight(t, script.Item{Do: do}, 0 <= do && do <= 2)
	}
}

// P17.1: each kind, and each number that is none, with all of these parts at once.
func TestRightAsSaid(t *testing.T) {
	for _, do := range dos() {
		for _, a := range parts() {
			for _, n := range parts() {
				x := script.Item{Do: do, A: int(a), N: n}
				wantRight(t, x, right(x))
			}
		}
	}
}

// P17.1: no room is below 0, in whichever place it stands.
func TestMayByRooms(t *testing.T) {
	wantMay(t, plain(1, 0), true)
	wantMay(t, mixed(), true)
	for at := range 4 {
		for _, room := range parts() {
			for _, s := range []script.Script{plain(1, 0), mixed(), brimful()} {
				s.Rooms[at] = room
				wantMay(t, s, room >= 0)
			}
		}
	}
	s := plain(1, 0)
	s.Rooms = [4]int64{top, top, top, top}
	wantMay(t, s, true)
	s.Rooms = [4]int64{least, least, least, least}
	wantMay(t, s, false)
	s.Rooms = [4]int64{top, top, -1, top}
	wantMay(t, s, false)
}

// P17.1: from 1 program to 8.
func TestMayByPrograms(t *testing.T) {
	wantMay(t, script.Script{}, false)
	wantMay(t, script.Script{Programs: [][]code.Instr{}, Items: begins(1)}, false)
	for many := range 300 {
		for _, items := range []int{0, 1, 3} {
			wantMay(t, plain(many, items), 1 <= many && many <= 8)
		}
	}
	for _, many := range []int{1<<16 + 1, 1 << 20} {
		if script.May(plain(many, 0)) {
			t.Errorf("May of %d programs = true", many)
		}
	}
}

// P17.1: a program that may not be, wherever it stands, is enough.
func TestMayByEachProgram(t *testing.T) {
	for many := 1; many <= 8; many++ {
		for at := range many {
			for _, p := range wrongPrograms() {
				s := plain(many, 2)
				s.Programs[at] = p
				wantMay(t, s, false)
			}
			for long := range 30 {
				s := plain(many, 2)
				s.Programs[at] = make([]code.Instr, long)
				wantMay(t, s, 1 <= long && long <= 24)
			}
			for n := range int64(5) {
				s := plain(many, 2)
				s.Programs[at] = []code.Instr{{}, {Op: code.Zero, N: n}, {}}
				wantMay(t, s, n <= 3)
			}
		}
	}
}

// P17.1: from no item to 200.
func TestMayByItems(t *testing.T) {
	wantMay(t, script.Script{Programs: halts(1)}, true)
	wantMay(t, script.Script{Programs: halts(1), Items: []script.Item{}}, true)
	for many := range 600 {
		wantMay(t, plain(1, many), many <= 200)
		wantMay(t, plain(8, many), many <= 200)
	}
	for _, many := range []int{1 << 16, 1<<16 + 1, 1 << 20} {
		if script.May(plain(1, many)) {
			t.Errorf("May of %d items = true", many)
		}
	}
}

// P17.1: an item that may not be, wherever it stands, is enough.
func TestMayByEachItem(t *testing.T) {
	for _, many := range []int{1, 2, 3, 199, 200} {
		for at := range many {
			for _, x := range wrongItems() {
				s := plain(1, many)
				s.Items[at] = x
				wantMay(t, s, false)
			}
			for _, k := range kinds {
				s := plain(2, many)
				s.Items[at] = script.Item{Do: k.do, A: k.a, N: k.from}
				wantMay(t, s, true)
			}
		}
	}
}

// P17.1: an item may name a program that isn't among the script's, and a task that isn't begun.
func TestMayOfOthersNumbers(t *testing.T) {
	for many := 1; many <= 8; many++ {
		s := plain(many, 0)
		s.Items = []script.Item{{Do: script.Pick, A: 15}, {Do: script.Begin, A: 7}, {Do: script.Pick}}
		wantComesBack(t, s)
	}
}

// P17.1: a script's bytes are 4000 at the most: all numbers of instructions, in eight programs, with all numbers of items.
func TestMayByBytes(t *testing.T) {
	if size := sizeOf(brimful()); size != most {
		t.Fatalf("%d bytes, want %d", size, most)
	}
	wantMay(t, brimful(), true)
	wantMay(t, changed(brimful(), func(s *script.Script) { s.Items = append(s.Items, script.Item{}) }), false)
	wantMay(t, changed(brimful(), func(s *script.Script) { s.Programs[7] = append(s.Programs[7], code.Instr{}) }), false)
	wantMay(t, changed(brimful(), func(s *script.Script) { s.Items = s.Items[1:] }), true)
	lengths := []int{1, 1, 1, 1, 1, 1, 1, 1}
	for at := range lengths {
		for ; lengths[at] < 24; lengths[at]++ {
			programs := halts(lengths...)
			for items := 160; items <= 201; items++ {
				s := script.Script{Programs: programs, Items: begins(items)}
				wantMay(t, s, items <= 200 && sizeOf(s) <= most)
			}
		}
	}
	for items := range 202 {
		wantMay(t, script.Script{Programs: halts(lengths...), Items: begins(items)}, items <= 184)
		wantMay(t, script.Script{Programs: halts(lengths[:7]...), Items: begins(items)}, items <= 200)
	}
}

// P17.1: May is what the document says, of scripts with some parts that are changed.
func TestMayAsSaid(t *testing.T) {
	r := rand.New(rand.NewSource(1))
	were := 0
	for range 20000 {
		s := anyScript(r, 9, 12)
		for range r.Intn(3) {
			spoil(r, &s)
		}
		wantMay(t, s, may(s))
		if may(s) {
			were++
		}
	}
	if were < 5000 || were > 15000 {
		t.Errorf("%d scripts of 20000 may be", were)
	}
}

// spoil changes a part of a script, often so that it may not be any more.
func spoil(r *rand.Rand, s *script.Script) {
	p := parts()
	n := p[r.Intn(len(p))]
	switch r.Intn(6) {
	case 0:
		s.Rooms[r.Intn(4)] = n
	case 1:
		s.Programs = append(s.Programs, wrongPrograms()[r.Intn(len(wrongPrograms()))])
	case 2:
		s.Programs[0][0].N = n // the first one always has an instruction: wrong ones come behind it
	case 3:
		s.Items = append(s.Items, script.Item{Do: r.Intn(4), A: int(n)})
	case 4:
		s.Items = append(s.Items, script.Item{Do: r.Intn(4), N: n})
	case 5:
		s.Items = append(s.Items, begins(195)...)
	}
}

// P17.1: scripts of nothing, and an empty list and none.
func TestSameOfNone(t *testing.T) {
	wantSame(t, script.Script{}, script.Script{}, true)
	wantSame(t, script.Script{}, script.Script{Programs: [][]code.Instr{}, Items: []script.Item{}}, true)
	wantSame(t, script.Script{Programs: [][]code.Instr{nil}}, script.Script{Programs: [][]code.Instr{{}}}, true)
	wantSame(t, script.Script{Programs: [][]code.Instr{nil}}, script.Script{}, false)
	wantSame(t, script.Script{Items: begins(1)}, script.Script{}, false)
	wantSame(t, script.Script{Rooms: [4]int64{0, 0, 0, 1}}, script.Script{}, false)
	wantSame(t, mixed(), script.Script{}, false)
	wantSame(t, mixed(), mixed(), true)
	wantSame(t, mixed(), brimful(), false)
	wantSame(t, brimful(), brimful(), true)
}

// alike are scripts that are held against others; not all of them may be.
func alike() []script.Script {
	wrong := script.Script{
		Rooms: [4]int64{-1, least, 7, 0}, Programs: [][]code.Instr{{{Op: 99, A: -7, B: 300, N: least}}, nil, make([]code.Instr, 30)},
		Items: []script.Item{{Do: 77, A: 300, N: 5}, {Do: -1}},
	}
	return []script.Script{plain(1, 1), plain(8, 200), mixed(), brimful(), wrong}
}

// P17.1: each room counts.
func TestSameByRooms(t *testing.T) {
	for _, s := range alike() {
		wantSame(t, s, copied(s), true)
		for at := range 4 {
			for _, d := range []int64{1, -1, 256, 1 << 32, top, least} {
				wantSame(t, s, changed(s, func(s *script.Script) { s.Rooms[at] += d }), false)
			}
		}
	}
	a, b := plain(1, 1), plain(1, 1)
	a.Rooms, b.Rooms = [4]int64{1, 2, 3, 4}, [4]int64{1, 3, 2, 4}
	wantSame(t, a, b, false)
}

// P17.1: how many programs there are counts, and each part of each instruction.
func TestSameByPrograms(t *testing.T) {
	for _, s := range alike() {
		wantSame(t, s, changed(s, func(s *script.Script) { s.Programs = append(s.Programs, nil) }), false)
		wantSame(t, s, changed(s, func(s *script.Script) { s.Programs = append(s.Programs, s.Programs[0]) }), false)
		wantSame(t, s, changed(s, func(s *script.Script) { s.Programs = s.Programs[:len(s.Programs)-1] }), false)
		wantSame(t, s, changed(s, func(s *script.Script) { s.Programs = nil }), false)
		for at, p := range s.Programs {
			wantSame(t, s, changed(s, func(s *script.Script) { s.Programs[at] = append(s.Programs[at], code.Instr{}) }), false)
			for i := range p {
				for _, d := range []code.Instr{{Op: 1}, {A: 1}, {B: 1}, {N: 1}, {N: -1}, {Op: 256}, {A: 256}, {B: 256}, {N: 1 << 32}} {
					wantSame(t, s, changed(s, func(s *script.Script) {
						x := p[i]
						s.Programs[at][i] = code.Instr{Op: x.Op + d.Op, A: x.A + d.A, B: x.B + d.B, N: x.N + d.N}
					}), false)
				}
			}
		}
	}
	p, q := mixed(), mixed()
	q.Programs[0], q.Programs[1] = q.Programs[1], q.Programs[0]
	wantSame(t, p, q, false)
	// As many instructions, but parted otherwise.
	wantSame(t, script.Script{Programs: halts(1, 2)}, script.Script{Programs: halts(2, 1)}, false)
	wantSame(t, script.Script{Programs: halts(3)}, script.Script{Programs: halts(2, 1)}, false)
}

// P17.1: how many items there are counts, and each part of each.
func TestSameByItems(t *testing.T) {
	for _, s := range alike() {
		wantSame(t, s, changed(s, func(s *script.Script) { s.Items = append(s.Items, script.Item{}) }), false)
		wantSame(t, s, changed(s, func(s *script.Script) { s.Items = s.Items[:len(s.Items)-1] }), false)
		wantSame(t, s, changed(s, func(s *script.Script) { s.Items = nil }), false)
		for at := range s.Items {
			for _, d := range []script.Item{{Do: 1}, {Do: -1}, {A: 1}, {A: -1}, {N: 1}, {N: -1}, {Do: 256}, {A: 256}, {N: 1 << 32}, {A: math.MinInt}, {N: least}} {
				wantSame(t, s, changed(s, func(s *script.Script) {
					x := &s.Items[at]
					x.Do, x.A, x.N = x.Do+d.Do, x.A+d.A, x.N+d.N
				}), false)
			}
		}
	}
	p, q := mixed(), mixed()
	q.Items[0], q.Items[1] = q.Items[1], q.Items[0]
	wantSame(t, p, q, false)
}

// P17.2: rooms, how many programs, these, and items, written out.
func TestBytes(t *testing.T) {
	wantBytes(t, plain(1, 0), put(put(make([]byte, 33+12), 32, 1), 33, 1)...)
	want := []byte{0, 0, 0, 0, 0, 0, 0, 5, 0, 0, 0, 0, 0, 0, 0, 0, 127, 255, 255, 255, 255, 255, 255, 255, 0, 0, 0, 0, 0, 0, 1, 2, 3}
	want = append(want, 2, 1, 5, 0, 128, 0, 0, 0, 0, 0, 0, 0, 4, 0, 0, 0, 0, 0, 0, 0, 0, 0, 2)
	want = append(want, 1, 0, 0, 0, 0, 0, 0, 0, 0, 0, 0, 0)
	want = append(want, 1, 39, 1, 7, 0, 0, 0, 0, 0, 0, 0, 3)
	want = append(want, 0, 7, 0, 0, 0, 0, 0, 0, 0, 0)
	want = append(want, 1, 15, 0, 0, 0, 0, 0, 0, 0, 0)
	want = append(want, 2, 0, 255, 255, 255, 255, 255, 255, 255, 255)
	want = append(want, 0, 0, 0, 0, 0, 0, 0, 0, 0, 0)
	want = append(want, 2, 0, 128, 0, 0, 0, 0, 0, 0, 0)
	wantBytes(t, mixed(), want...)
	wantRead(t, want, mixed())
}

// P17.2: a number's bytes, the highest one first, as a room in each place and as what the clock goes on by.
func TestBytesOfNumbers(t *testing.T) {
	for _, c := range []struct {
		n int64
		b []byte
	}{
		{0, []byte{0, 0, 0, 0, 0, 0, 0, 0}},
		{255, []byte{0, 0, 0, 0, 0, 0, 0, 255}},
		{256, []byte{0, 0, 0, 0, 0, 0, 1, 0}},
		{1 << 31, []byte{0, 0, 0, 0, 128, 0, 0, 0}},
		{1 << 32, []byte{0, 0, 0, 1, 0, 0, 0, 0}},
		{0x0102030405060708, []byte{1, 2, 3, 4, 5, 6, 7, 8}},
		{0x7080706050403020, []byte{0x70, 0x80, 0x70, 0x60, 0x50, 0x40, 0x30, 0x20}},
		{top, []byte{127, 255, 255, 255, 255, 255, 255, 255}},
		{-1, []byte{255, 255, 255, 255, 255, 255, 255, 255}},
		{-257, []byte{255, 255, 255, 255, 255, 255, 254, 255}},
		{least, []byte{128, 0, 0, 0, 0, 0, 0, 0}},
	} {
		s := plain(1, 3)
		s.Items[1] = script.Item{Do: script.Clock, N: c.n}
		b := told(plain(1, 3))
		b = slices.Concat(b[:55], []byte{2, 0}, c.b, b[65:])
		wantBytes(t, s, b...)
		wantRead(t, b, s)
		for at := 0; at < 4 && c.n >= 0; at++ {
			s.Rooms[at] = c.n
			copy(b[8*at:], c.b)
			wantBytes(t, s, b...)
			wantRead(t, b, s)
		}
	}
}

// P17.2: of scripts that may not be there are no bytes.
func TestBytesOfNone(t *testing.T) {
	wantNone(t, script.Script{})
	wantNone(t, plain(0, 1))
	wantNone(t, plain(9, 0))
	wantNone(t, plain(255, 0))
	wantNone(t, plain(256, 0))
	wantNone(t, plain(257, 0))
	wantNone(t, plain(1, 201))
	wantNone(t, plain(1, 256))
	wantNone(t, plain(1, 1<<16))
	for _, s := range []script.Script{plain(1, 1), plain(3, 3), plain(8, 200), mixed(), brimful()} {
		for _, n := range []int64{-1, -256, -1 << 32, least} {
			for at := range 4 {
				wantNone(t, changed(s, func(s *script.Script) { s.Rooms[at] = n }))
			}
		}
		for at := range s.Programs {
			for _, p := range wrongPrograms() {
				wantNone(t, changed(s, func(s *script.Script) { s.Programs[at] = p }))
			}
		}
		for at := range s.Items {
			for _, x := range wrongItems() {
				wantNone(t, changed(s, func(s *script.Script) { s.Items[at] = x }))
			}
		}
	}
}

// P17.2: of a script whose bytes are just as many as may be there are bytes; of one that has an item more there are none.
func TestBytesAtMost(t *testing.T) {
	s := brimful()
	b := bytesOf(t, s)
	if len(b) != most {
		t.Errorf("%d bytes, want %d", len(b), most)
	}
	wantComesBack(t, s)
	wantNone(t, changed(s, func(s *script.Script) { s.Items = append(s.Items, script.Item{}) }))
	wantNone(t, changed(s, func(s *script.Script) { s.Programs[7] = make([]code.Instr, 22) }))
	wantNone(t, changed(s, func(s *script.Script) { s.Items = begins(200) }))
	wantComesBack(t, script.Script{Programs: halts(24, 24, 24, 24, 24, 24, 24, 24), Items: begins(184)})
	wantNone(t, script.Script{Programs: halts(24, 24, 24, 24, 24, 24, 24, 24), Items: begins(185)})
	wantComesBack(t, script.Script{Programs: halts(24, 24, 24, 24, 24, 24, 24), Items: begins(200)})
	wantComesBack(t, script.Script{Programs: halts(24, 24, 24, 24, 24, 24, 24, 10), Items: begins(200)})
	wantNone(t, script.Script{Programs: halts(24, 24, 24, 24, 24, 24, 24, 11), Items: begins(200)})
}

// P17.2: more than 4000 bytes are too long, whatever they tell.
func TestReadLong(t *testing.T) {
	b := told(brimful())
	wantRead(t, b, brimful())
	for _, more := range [][]byte{{0}, {255}, make([]byte, one), told(mixed())} {
		wantNoRead(t, append(slices.Clone(b), more...), api.ErrLong)
	}
	for _, size := range []int{4001, 4002, 4010, 5000, 1 << 16, 1 << 20} {
		wantNoRead(t, make([]byte, size), api.ErrLong)
		wantNoRead(t, bytes.Repeat([]byte{255}, size), api.ErrLong)
		wantNoRead(t, append(told(plain(1, 0)), make([]byte, size-45)...), api.ErrLong)
	}
	wantNoRead(t, make([]byte, 4000), api.ErrForm)
	wantNoRead(t, bytes.Repeat([]byte{255}, 4000), api.ErrForm)
	// As many bytes as may be: a program, and half an item too many; a program, and more items than may be.
	wantNoRead(t, append(told(plain(1, 0)), make([]byte, 3955)...), api.ErrShort)
	wantNoRead(t, append(told(plain(1, 0)), make([]byte, 3950)...), api.ErrForm)
}

// P17.2: fewer than 33 bytes are too short, whatever they tell.
func TestReadShort(t *testing.T) {
	wantNoRead(t, nil, api.ErrShort)
	for size := range head {
		wantNoRead(t, make([]byte, size), api.ErrShort)
		wantNoRead(t, bytes.Repeat([]byte{255}, size), api.ErrShort)
		wantNoRead(t, told(mixed())[:size], api.ErrShort)
		wantNoRead(t, slices.Clip(slices.Clone(told(mixed())[:size])), api.ErrShort)
	}
	wantNoRead(t, told(mixed())[:head], api.ErrShort)
	wantNoRead(t, make([]byte, head), api.ErrForm)
	wantNoRead(t, bytes.Repeat([]byte{255}, head), api.ErrForm)
}

// P17.2: a room below 0, in each place.
func TestReadRooms(t *testing.T) {
	for at := range 4 {
		for _, n := range parts() {
			s := mixed()
			s.Rooms[at] = n
			if n < 0 {
				wantNoRead(t, told(s), api.ErrForm)
				wantNoRead(t, told(s)[:head], api.ErrForm)
				continue
			}
			wantRead(t, told(s), s)
		}
		for x := range 256 {
			wantReadAsSaid(t, put(told(mixed()), 8*at, byte(x)))
			wantReadAsSaid(t, put(told(mixed()), 8*at+7, byte(x)))
		}
	}
}

// P17.2: each byte that may tell how many programs there are, with none, some and enough of them behind.
func TestReadHowManyPrograms(t *testing.T) {
	for many := range 256 {
		b := put(make([]byte, head), 32, byte(many))
		if many < 1 || many > 8 {
			wantNoRead(t, b, api.ErrForm)
			wantNoRead(t, append(b, make([]byte, 24)...), api.ErrForm)
			wantNoRead(t, put(told(plain(8, 0)), 32, byte(many)), api.ErrForm)
			wantNoRead(t, told(plain(many, 0)), first(many*12 > most-head, api.ErrLong, api.ErrForm))
			continue
		}
		wantNoRead(t, b, api.ErrShort)
		wantRead(t, told(plain(many, 0)), plain(many, 0))
		for have := range many {
			wantNoRead(t, put(told(plain(have, 0)), 32, byte(many)), api.ErrShort)
		}
		wantReadAsSaid(t, put(told(plain(8, 0)), 32, byte(many)))
	}
}

// first is the first one, if that is so, else the other one.
func first[T any](is bool, a, b T) T {
	if is {
		return a
	}
	return b
}

// P17.2: each length that is cut off, be there bytes behind in the same memory or not.
func TestReadCut(t *testing.T) {
	for _, s := range []script.Script{plain(1, 0), plain(8, 3), mixed(), brimful()} {
		b := told(s)
		items := len(b) - one*len(s.Items)
		for size := range b {
			cut := b[:size]
			if size < items || (size-items)%one != 0 {
				wantNoRead(t, cut, api.ErrShort)
				wantNoRead(t, slices.Clip(slices.Clone(cut)), api.ErrShort)
				continue
			}
			part := s
			part.Items = s.Items[:(size-items)/one]
			wantRead(t, cut, part)
			wantRead(t, slices.Clip(slices.Clone(cut)), part)
		}
	}
}

// P17.2: a program's error is code.Read's, and that of the first one that is wrong, wherever it stands.
func TestReadWrongPrograms(t *testing.T) {
	noOp := []byte{1, 47, 0, 0, 0, 0, 0, 0, 0, 0, 0, 0}
	fine := []byte{1, 0, 0, 0, 0, 0, 0, 0, 0, 0, 0, 0}
	for many := 1; many <= 8; many++ {
		for at := range many {
			start := append(put(make([]byte, head), 32, byte(many)), bytes.Repeat(fine, at)...)
			for _, behind := range [][]byte{nil, {7}, bytes.Repeat(fine, 7), bytes.Repeat(noOp, 7), make([]byte, 300)} {
				wantNoRead(t, slices.Concat(start, []byte{0}, behind), api.ErrForm)
				wantNoRead(t, slices.Concat(start, []byte{25}, behind), api.ErrForm)
				wantNoRead(t, slices.Concat(start, []byte{255}, behind), api.ErrForm)
				wantNoRead(t, slices.Concat(start, noOp, behind), api.ErrArg)
			}
			wantNoRead(t, start, api.ErrShort)
			wantNoRead(t, slices.Concat(start, fine[:11]), api.ErrShort)
			wantNoRead(t, slices.Concat(start, noOp[:11]), api.ErrShort)
			wantNoRead(t, slices.Concat(start, []byte{24}, make([]byte, 263)), api.ErrShort)
			// A place beyond the program isn't there because there are bytes behind.
			wantNoRead(t, slices.Concat(start, []byte{1, 4, 0, 0, 0, 0, 0, 0, 0, 0, 0, 2}, bytes.Repeat(fine, 8)), api.ErrArg)
		}
	}
}

// P17.2: what is left behind the programs is some times ten bytes, from no item to 200.
func TestReadHowManyItems(t *testing.T) {
	for _, programs := range []int{1, 2, 8} {
		b := told(plain(programs, 0))
		wantRead(t, b, plain(programs, 0))
		for left := range 2100 {
			all := append(slices.Clone(b), make([]byte, left)...)
			switch {
			case left%one != 0:
				wantNoRead(t, all, api.ErrShort)
			case left > 2000:
				wantNoRead(t, all, api.ErrForm)
			default:
				wantRead(t, all, plain(programs, left/one))
			}
		}
	}
	wantRead(t, told(plain(1, 200)), plain(1, 200))
	wantNoRead(t, told(plain(1, 201)), api.ErrForm)
	wantNoRead(t, told(plain(1, 202)), api.ErrForm)
	wantNoRead(t, told(plain(1, 256)), api.ErrForm)
	wantNoRead(t, told(plain(1, 257)), api.ErrForm)
	wantNoRead(t, told(plain(1, 395)), api.ErrForm)
	wantNoRead(t, told(plain(1, 396)), api.ErrLong)
}

// P17.2: each byte that a kind and an A may be told by.
func TestReadBytesOfItems(t *testing.T) {
	b := told(plain(1, 1))
	for do := range 256 {
		for a := range 256 {
			for _, n := range []byte{0, 1, 255} {
				b[45], b[46], b[54] = byte(do), byte(a), n
				wantReadAsSaid(t, b)
			}
		}
	}
}

// P17.2: each byte of a number, with each kind: only what the clock goes on by is any number, those below 0 too.
func TestReadBytesOfNumbers(t *testing.T) {
	for do := range 4 {
		for at := 47; at < 55; at++ {
			for x := range 256 {
				b := put(told(plain(1, 1)), 45, byte(do))
				b[at] = byte(x)
				if do == 2 {
					s := plain(1, 1)
					s.Items[0] = script.Item{Do: script.Clock, N: int64(uint64(x) << (8 * (54 - at)))}
					wantRead(t, b, s)
					continue
				}
				if x != 0 || do == 3 {
					wantNoRead(t, b, api.ErrForm)
				}
			}
		}
	}
}

// P17.2: an item that may not be, wherever it stands, is enough.
func TestReadWrongItems(t *testing.T) {
	for _, many := range []int{1, 2, 3, 200} {
		for at := range many {
			for _, x := range []script.Item{{Do: 3}, {Do: 255}, {A: 8}, {A: 255}, {N: 1}, {N: -1}, {Do: 1, A: 16}, {Do: 1, N: least}, {Do: 2, A: 1}, {Do: 2, A: 255, N: 3}} {
				s := plain(2, many)
				s.Items[at] = x
				wantNoRead(t, told(s), api.ErrForm)
			}
			for _, x := range []script.Item{{A: 7}, {Do: 1, A: 15}, {Do: 2, N: -1}, {Do: 2, N: top}} {
				s := plain(2, many)
				s.Items[at] = x
				wantRead(t, told(s), s)
			}
		}
	}
}

// P17.2: which error comes first, where several would.
func TestReadFirstError(t *testing.T) {
	fine := told(plain(1, 1)) // a program at 33, an item at 45
	wantRead(t, fine, plain(1, 1))
	turned := func(at ...int) []byte {
		b := slices.Clone(fine)
		for _, i := range at {
			b[i] = 200
		}
		return b
	}
	long := make([]byte, most)
	for _, c := range []struct {
		b    []byte
		want api.Errno
	}{
		{append(turned(0, 32, 33, 45), long...), api.ErrLong},
		{append(turned(45), long...), api.ErrLong},
		{turned(0, 32)[:32], api.ErrShort},
		{turned(0)[:1], api.ErrShort},
		{turned(24)[:33], api.ErrForm},
		{turned(32)[:33], api.ErrForm},
		{turned(24, 34), api.ErrForm},
		{turned(32, 34), api.ErrForm},
		{turned(8)[:34], api.ErrForm},
		{turned(32)[:34], api.ErrForm},
		{turned(34, 45), api.ErrArg},
		{turned(33, 34), api.ErrForm},
		{turned(33)[:34], api.ErrForm},
		{turned(34)[:44], api.ErrShort},
		{turned(34)[:46], api.ErrArg},
		{append(turned(34), 1), api.ErrArg},
		{append(turned(45), 1), api.ErrShort},
		{turned(45)[:46], api.ErrShort},
		{turned(45), api.ErrForm},
		{append(turned(34), make([]byte, 2000)...), api.ErrArg},
		{append(turned(45), make([]byte, 2000)...), api.ErrForm},
		{append(turned(45), make([]byte, 2001)...), api.ErrShort},
		{append(turned(), make([]byte, 2001)...), api.ErrShort},
		{append(turned(), make([]byte, 2000)...), api.ErrForm},
	} {
		wantNoRead(t, c.b, c.want)
	}
}

// P17.3: scripts come back from their bytes.
func TestScriptsComeBack(t *testing.T) {
	r := rand.New(rand.NewSource(2))
	for round := range 10000 {
		s := anyScript(r, 8, round%201)
		b := bytesOf(t, s)
		if !bytes.Equal(b, told(s)) || !script.May(s) {
			t.Fatalf("Bytes(%v) = %v", s, b)
		}
		back, e := script.Read(b)
		if e != api.OK || !same(back, s) || !script.Same(back, s) || !script.Same(s, back) || !script.May(back) {
			t.Fatalf("Read(%v) = %v, %d, want %v", b, back, e, s)
		}
	}
	for _, s := range []script.Script{plain(1, 0), plain(1, 200), plain(8, 0), plain(8, 200), mixed(), brimful()} {
		wantComesBack(t, s)
	}
}

// P17.3: bytes come back from scripts; whatever bytes are read, the answer is what the document says.
func TestBytesComeBack(t *testing.T) {
	r := rand.New(rand.NewSource(3))
	read := 0
	for round := range 60000 {
		b := told(anyScript(r, 1+round%8, round%14))
		for range round % 3 {
			b[r.Intn(len(b))] = byte(r.Intn(256) >> r.Intn(8))
		}
		switch round % 7 {
		case 4:
			b = b[:r.Intn(len(b)+1)]
		case 5:
			b = append(b, b...)
		case 6:
			b = append(b, make([]byte, one*r.Intn(210))...)
		}
		wantReadAsSaid(t, b)
		s, e := script.Read(b)
		if e != api.OK {
			continue
		}
		read++
		if back := bytesOf(t, s); !bytes.Equal(back, b) {
			t.Fatalf("Bytes(Read(%v)) = %v", b, back)
		}
	}
	if read < 10000 {
		t.Errorf("no more than %d scripts were read", read)
	}
}

// P17.3: scripts that are the same have the same bytes, others have others.
func TestOthersHaveOtherBytes(t *testing.T) {
	r := rand.New(rand.NewSource(4))
	seen := map[string]script.Script{}
	for range 10000 {
		s := plain(1+r.Intn(2), r.Intn(3))
		s.Rooms[r.Intn(4)] = int64(r.Intn(2))
		if len(s.Items) > 0 {
			s.Items[r.Intn(len(s.Items))] = script.Item{Do: r.Intn(2), A: r.Intn(2)}
		}
		s.Programs[0][0] = anyInstr(r, 1)
		b := string(bytesOf(t, s))
		if other, is := seen[b]; is {
			wantSame(t, s, other, true)
		}
		seen[b] = s
	}
	var last script.Script
	for _, s := range seen {
		wantSame(t, s, last, false)
		last = s
	}
}

// roomy is a copy of a script, behind each of whose lists there is something in its memory.
func roomy(s script.Script) script.Script {
	s = copied(s)
	for i, p := range s.Programs {
		s.Programs[i] = append(p, code.Instr{Op: 77, A: 78, B: 79, N: 80})[:len(p)]
	}
	s.Programs = append(s.Programs, []code.Instr{{Op: 81}})[:len(s.Programs)]
	s.Items = append(s.Items, script.Item{Do: 82, A: 83, N: 84})[:len(s.Items)]
	return s
}

// withBehind is a copy of a roomy script, with what stands behind its lists.
func withBehind(s script.Script) script.Script {
	all := script.Script{Rooms: s.Rooms, Items: slices.Clone(s.Items[:len(s.Items)+1])}
	for _, p := range s.Programs {
		all.Programs = append(all.Programs, slices.Clone(p[:len(p)+1]))
	}
	all.Programs = append(all.Programs, slices.Clone(s.Programs[:len(s.Programs)+1][len(s.Programs)]))
	return all
}

// R3: a script that is passed in is left as it was, with what stands behind its lists in their memory.
func TestScriptsAreLeft(t *testing.T) {
	for _, s := range append(alike(), script.Script{}, plain(9, 3), plain(1, 201)) {
		given := roomy(s)
		was := withBehind(given)
		script.May(given)
		script.Bytes(given)
		script.Same(given, s)
		script.Same(s, given)
		if is := withBehind(given); !same(is, was) {
			t.Errorf("a script was %v, and is %v", was, is)
		}
	}
}

// R3: bytes that are passed in are left as they were, with what stands behind them in their memory, whatever is done to what was read.
func TestBytesAreLeft(t *testing.T) {
	for _, b := range [][]byte{told(plain(1, 0)), told(mixed()), told(brimful()), told(plain(9, 0)), told(plain(1, 201)), told(script.Script{}), {}, {1}} {
		all := append(slices.Clone(b), 9, 8, 7, 6, 5)
		was := slices.Clone(all)
		for size := len(b); size <= len(all); size++ {
			s, _ := script.Read(all[:size])
			overwrite(s)
			if !bytes.Equal(all, was) {
				t.Errorf("bytes were %v, and are %v", was, all)
			}
		}
	}
}

// overwrite changes all that the lists of a script have, and puts something behind each.
func overwrite(s script.Script) {
	for i, p := range s.Programs {
		for j := range p {
			p[j] = code.Instr{Op: 77, A: 78, B: 79, N: 80}
		}
		_ = append(p, code.Instr{Op: 81})
		s.Programs[i] = nil
	}
	_ = append(s.Programs, []code.Instr{{Op: 82}})
	for i := range s.Items {
		s.Items[i] = script.Item{Do: 83, A: 84, N: 85}
	}
	_ = append(s.Items, script.Item{Do: 86})
}

// R3: what was told may be changed without changing what it was told of, or what is told then, and the other way about.
func TestWhatIsToldIsNew(t *testing.T) {
	s, want := mixed(), told(mixed())
	b, other := bytesOf(t, s), bytesOf(t, s)
	clear(b)
	_ = append(b, 1, 2, 3)
	if !bytes.Equal(other, want) || !same(s, mixed()) {
		t.Errorf("a script's bytes share memory: %v, of %v", other, s)
	}
	back, e := script.Read(other)
	again, _ := script.Read(other)
	overwrite(back)
	if e != api.OK || !same(again, mixed()) || !bytes.Equal(other, want) {
		t.Errorf("a script that was read shares memory: %v, of %v", again, other)
	}
	clear(other)
	if !same(again, mixed()) {
		t.Errorf("a script changes with the bytes that it was read from: %v", again)
	}
	kept := bytesOf(t, s)
	overwrite(s)
	if !bytes.Equal(kept, want) {
		t.Errorf("bytes change with the script that they were told of: %v", kept)
	}
	wantBytes(t, mixed(), want...)
	wantRead(t, want, mixed())
}

// R3: no two lists of a script that was read share any memory: one of them is changed, and lengthened, and the others stay.
func TestListsShareNone(t *testing.T) {
	for _, s := range []script.Script{mixed(), brimful(), plain(8, 200)} {
		for at := range s.Programs {
			back, _ := script.Read(told(s))
			p := back.Programs[at]
			_ = append(p, slices.Repeat([]code.Instr{{Op: 77}}, 100)...)
			for i := range p {
				p[i] = code.Instr{Op: 78}
			}
			_ = append(p, code.Instr{Op: 79})
			for i, other := range back.Programs {
				if i != at && !slices.Equal(other, s.Programs[i]) {
					t.Errorf("program %d changes with program %d: %v", i, at, other)
				}
			}
			if !slices.Equal(back.Items, s.Items) {
				t.Errorf("items change with program %d: %v", at, back.Items)
			}
		}
	}
}

// R4 and R5: the same calls answer the same, whatever was called between them, right or wrong.
func TestNothingIsKept(t *testing.T) {
	r := rand.New(rand.NewSource(5))
	for range 1000 {
		s := anyScript(r, 8, 20)
		b := bytesOf(t, s)
		script.Read(append(told(plain(r.Intn(10), 0)), make([]byte, r.Intn(3000))...))
		script.Bytes(plain(r.Intn(10), r.Intn(300)))
		script.May(script.Script{Rooms: [4]int64{anyNumber(r)}, Programs: halts(r.Intn(30))})
		script.Right(script.Item{Do: r.Intn(4), A: r.Intn(20), N: anyNumber(r)})
		script.Same(s, plain(1, 1))
		wantMay(t, s, true)
		wantBytes(t, s, b...)
		wantRead(t, b, s)
	}
}
