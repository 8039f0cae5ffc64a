package code_test

import (
	"bytes"
	"encoding/binary"
	"math"
	"math/rand"
	"slices"
	"testing"

	"countermand/api"
	"countermand/code"
)

const (
	least = math.MinInt64
	top   = math.MaxInt64
	one   = 11 // as many bytes an instruction has
)

// row is what the document's table says of an Op.
type row struct {
	op   int
	name string
	is   int
	form string
}

var table = []row{
	{0, "Halt", code.Halt, "000"}, {24, "Unlock", code.Unlock, "00o"},
	{1, "Set", code.Set, "r0n"}, {25, "RLock", code.RLock, "00o"},
	{2, "Move", code.Move, "rr0"}, {26, "WLock", code.WLock, "00o"},
	{3, "Add", code.Add, "rr0"}, {27, "RWUnlock", code.RWUnlock, "00o"},
	{4, "Zero", code.Zero, "r0j"}, {28, "Wait", code.Wait, "0oo"},
	{5, "Less", code.Less, "rrj"}, {29, "WaitCtx", code.WaitCtx, "roo"},
	{6, "Yield", code.Yield, "000"}, {30, "Signal", code.Signal, "00o"},
	{7, "Spawn", code.Spawn, "rp0"}, {31, "Broadcast", code.Broadcast, "00o"},
	{8, "Now", code.Now, "r00"}, {32, "OnceBegin", code.OnceBegin, "r0o"},
	{9, "Sleep", code.Sleep, "r00"}, {33, "OnceEnd", code.OnceEnd, "00o"},
	{10, "WithCancel", code.WithCancel, "rr0"}, {34, "GroupAdd", code.GroupAdd, "r0o"},
	{11, "WithTimeout", code.WithTimeout, "rrn"}, {35, "GroupWait", code.GroupWait, "00o"},
	{12, "WithValue", code.WithValue, "rrn"}, {36, "Acquire", code.Acquire, "rro"},
	{13, "WithoutCancel", code.WithoutCancel, "rr0"}, {37, "TryAcquire", code.TryAcquire, "rro"},
	{14, "Cancel", code.Cancel, "r0n"}, {38, "Release", code.Release, "r0o"},
	{15, "Err", code.Err, "rr0"}, {39, "Go", code.Go, "rpo"},
	{16, "Cause", code.Cause, "rr0"}, {40, "TryGo", code.TryGo, "rpo"},
	{17, "Value", code.Value, "rrn"}, {41, "SetLimit", code.SetLimit, "r0o"},
	{18, "Await", code.Await, "r00"}, {42, "TeamWait", code.TeamWait, "r0o"},
	{19, "After", code.After, "rrp"}, {43, "Do", code.Do, "rro"},
	{20, "StopAfter", code.StopAfter, "r00"}, {44, "Finish", code.Finish, "r0o"},
	{21, "Lock", code.Lock, "00o"}, {45, "Forget", code.Forget, "r0o"},
	{22, "TryLock", code.TryLock, "r0o"}, {46, "Fail", code.Fail, "r00"},
	{23, "LockCtx", code.LockCtx, "r0o"},
}

// noOps are numbers of which there is no Op; some of them are one but for what is above a byte, or but for their sign.
func noOps() []int {
	return []int{
		-1, 47, 48, -2, -46, -47, 127, 128, 254, 255, 256, 257, 302, -255, -256, 1 << 16, 1<<16 + 1, 1 << 32, 1<<32 + 21, -1 << 32,
		math.MinInt, math.MinInt + 1, math.MaxInt, math.MaxInt - 1,
	}
}

// bounds are the least and the greatest part that a letter asks for, in a program of so many instructions.
func bounds(letter byte, long int) (int64, int64) {
	switch letter {
	case 'r':
		return 0, 5
	case 'o':
		return 0, 3
	case 'p':
		return 0, 7
	case 'j':
		return 0, int64(long)
	case 'n':
		return least, top
	}
	return 0, 0
}

func within(part int64, letter byte, long int) bool {
	from, to := bounds(letter, long)
	return from <= part && part <= to
}

func rowOf(op int) (row, bool) {
	i := slices.IndexFunc(table, func(r row) bool { return r.op == op })
	if i < 0 {
		return row{}, false
	}
	return table[i], true
}

// right is Right as plainly as the document says it.
func right(x code.Instr, long int) bool {
	r, is := rowOf(x.Op)
	return is && within(int64(x.A), r.form[0], long) && within(int64(x.B), r.form[1], long) && within(x.N, r.form[2], long)
}

// may is May as plainly as the document says it.
func may(l []code.Instr) bool {
	for _, x := range l {
		if !right(x, len(l)) {
			return false
		}
	}
	return 1 <= len(l) && len(l) <= 24
}

// told are the bytes of a program that may be.
func told(l []code.Instr) []byte {
	b := []byte{byte(len(l))}
	for _, x := range l {
		b = append(b, byte(x.Op), byte(x.A), byte(x.B))
		b = binary.BigEndian.AppendUint64(b, uint64(x.N))
	}
	return b
}

// readOf is Read as plainly as the document says it.
func readOf(b []byte) ([]code.Instr, int, api.Errno) {
	if len(b) == 0 {
		return nil, 0, api.ErrShort
	}
	many := int(b[0])
	if many == 0 || many > 24 {
		return nil, 0, api.ErrForm
	}
	if len(b)-1 < one*many {
		return nil, 0, api.ErrShort
	}
	var l []code.Instr
	for at := 1; len(l) < many; at += one {
		n := binary.BigEndian.Uint64(b[at+3:])
		l = append(l, code.Instr{Op: int(b[at]), A: int(b[at+1]), B: int(b[at+2]), N: int64(n)})
	}
	if !may(l) {
		return nil, 0, api.ErrArg
	}
	return l, 1 + one*many, api.OK
}

// parts are numbers to try as A, as B, or as N: around each bound of a letter, and around those of bytes and of words.
func parts() []int64 {
	return []int64{
		0, 1, 2, 3, 4, 5, 6, 7, 8, 23, 24, 25, 127, 128, 255, 256, 257, 1 << 16, 1<<31 - 1, 1 << 31, 1 << 32, 1<<32 + 1, top - 1, top,
		-1, -2, -6, -128, -255, -256, -1 << 16, -1 << 31, -1 << 32, -1<<32 + 1, least, least + 1,
	}
}

// lengths are numbers of instructions to try, those among them that no program has.
func lengths() []int {
	return []int{0, 1, 2, 5, 23, 24, 25, 255, 256, 1 << 16, -1, -24, math.MinInt, math.MaxInt}
}

func wantRight(t *testing.T, x code.Instr, long int, want bool) {
	t.Helper()
	if is := code.Right(x, long); is != want {
		t.Errorf("Right(%v, %d) = %t, want %t", x, long, is, want)
	}
}

func wantMay(t *testing.T, l []code.Instr, want bool) {
	t.Helper()
	if is := code.May(l); is != want {
		t.Errorf("May(%v) = %t, want %t", l, is, want)
	}
}

func wantSame(t *testing.T, a, b []code.Instr, want bool) {
	t.Helper()
	if is := code.Same(a, b); is != want {
		t.Errorf("Same(%v, %v) = %t, want %t", a, b, is, want)
	}
	if is := code.Same(b, a); is != want {
		t.Errorf("Same(%v, %v) = %t, want %t", b, a, is, want)
	}
}

func wantBytes(t *testing.T, l []code.Instr, want ...byte) {
	t.Helper()
	if b, e := code.Bytes(l); !bytes.Equal(b, want) || e != api.OK {
		t.Errorf("Bytes(%v) = %v, %d, want %v, %d", l, b, e, want, api.OK)
	}
}

// wantNoBytes asks for the bytes of a program that may not be.
func wantNoBytes(t *testing.T, l []code.Instr) {
	t.Helper()
	if b, e := code.Bytes(l); len(b) != 0 || e != api.ErrArg {
		t.Errorf("Bytes(%v) = %v, %d, want none, %d", l, b, e, api.ErrArg)
	}
}

func wantRead(t *testing.T, b []byte, size int, want ...code.Instr) {
	t.Helper()
	if l, n, e := code.Read(b); !slices.Equal(l, want) || n != size || e != api.OK {
		t.Errorf("Read(%v) = %v, %d, %d, want %v, %d, %d", b, l, n, e, want, size, api.OK)
	}
}

// wantNoRead reads bytes in which no program stands.
func wantNoRead(t *testing.T, b []byte, want api.Errno) {
	t.Helper()
	if l, n, e := code.Read(b); len(l) != 0 || n != 0 || e != want {
		t.Errorf("Read(%v) = %v, %d, %d, want none, 0, %d", b, l, n, e, want)
	}
}

// wantReadAsSaid holds what is read against the document's words.
func wantReadAsSaid(t *testing.T, b []byte) {
	t.Helper()
	l, n, e := readOf(b)
	if e != api.OK {
		wantNoRead(t, b, e)
		return
	}
	wantRead(t, b, n, l...)
}

// bytesOf asks for the bytes of a program that may be.
func bytesOf(t *testing.T, l []code.Instr) []byte {
	t.Helper()
	b, e := code.Bytes(l)
	if e != api.OK {
		t.Fatalf("Bytes(%v) = %v, %d", l, b, e)
	}
	return b
}

// halts is a program of so many instructions, each of them all 0.
func halts(many int) []code.Instr { return make([]code.Instr, many) }

// put is a list with another one at a place.
func put[T any](l []T, at int, x T) []T {
	l = slices.Clone(l)
	l[at] = x
	return l
}

// some is any number that a letter asks for; often it is one of the two at the ends.
func some(r *rand.Rand, letter byte, long int) int64 {
	from, to := bounds(letter, long)
	switch r.Intn(4) {
	case 0:
		return from
	case 1:
		return to
	}
	if letter == 'n' {
		return int64(r.Uint64()) >> r.Intn(64)
	}
	return from + r.Int63n(to-from+1)
}

// anyProgram is a program of so many instructions that may be.
func anyProgram(r *rand.Rand, many int) []code.Instr {
	var l []code.Instr
	for range many {
		w := table[r.Intn(len(table))]
		l = append(l, code.Instr{
			Op: w.op, A: int(some(r, w.form[0], many)), B: int(some(r, w.form[1], many)), N: some(r, w.form[2], many),
		})
	}
	return l
}

// mixed is a program that may be, with each kind of part at its greatest.
func mixed() []code.Instr {
	return []code.Instr{
		{Op: code.Set, A: 5, N: top},
		{Op: code.Less, A: 4, B: 5, N: 6},
		{Op: code.After, A: 1, B: 2, N: 7},
		{Op: code.TryGo, A: 3, B: 7, N: 3},
		{Op: code.Wait, B: 3, N: 2},
		{Op: code.WithTimeout, A: 2, N: least},
	}
}

// The document's example.
func TestExample(t *testing.T) {
	l := []code.Instr{{Op: code.Set, A: 2, N: -1}}
	b := []byte{1, 1, 2, 0, 255, 255, 255, 255, 255, 255, 255, 255}
	wantBytes(t, l, b...)
	wantRead(t, b, 12, l...)
}

// P16.1: each Op of the table has the table's number, and its letters.
func TestForm(t *testing.T) {
	for _, r := range table {
		if r.is != r.op {
			t.Errorf("%s = %d, want %d", r.name, r.is, r.op)
		}
		if form := code.Form(r.op); form != r.form {
			t.Errorf("Form(%d) = %q, want %q, of %s", r.op, form, r.form, r.name)
		}
	}
	for op := range 47 {
		if len(code.Form(op)) != 3 {
			t.Errorf("Form(%d) = %q, want three letters", op, code.Form(op))
		}
	}
}

// P16.1: there is no Op but these.
func TestFormOfNone(t *testing.T) {
	for _, op := range noOps() {
		if form := code.Form(op); form != "" {
			t.Errorf("Form(%d) = %q, want none", op, form)
		}
	}
	for op := -1000; op < 1000; op++ {
		if form := code.Form(op); (form != "") != (0 <= op && op < 47) {
			t.Errorf("Form(%d) = %q", op, form)
		}
	}
}

// P16.1: each letter, written out.
func TestRight(t *testing.T) {
	for _, c := range []struct {
		x    code.Instr
		long int
		want bool
	}{
		{code.Instr{}, 1, true},
		{code.Instr{A: 1}, 1, false},
		{code.Instr{A: -1}, 1, false},
		{code.Instr{B: 1}, 1, false},
		{code.Instr{B: -1}, 1, false},
		{code.Instr{N: 1}, 1, false},
		{code.Instr{N: -1}, 1, false},
		{code.Instr{Op: code.Set, A: 5}, 1, true},
		{code.Instr{Op: code.Set, A: 6}, 1, false},
		{code.Instr{Op: code.Set, A: -1}, 1, false},
		{code.Instr{Op: code.Set, A: 256}, 1, false},
		{code.Instr{Op: code.Set, N: top}, 1, true},
		{code.Instr{Op: code.Set, N: least}, 1, true},
		{code.Instr{Op: code.Set, B: 1, N: 1}, 1, false},
		{code.Instr{Op: code.Move, A: 5, B: 5}, 1, true},
		{code.Instr{Op: code.Move, A: 5, B: 6}, 1, false},
		{code.Instr{Op: code.Move, A: 6, B: 5}, 1, false},
		{code.Instr{Op: code.Lock, N: 3}, 1, true},
		{code.Instr{Op: code.Lock, N: 4}, 1, false},
		{code.Instr{Op: code.Lock, N: -1}, 1, false},
		{code.Instr{Op: code.Lock, N: 1 << 32}, 1, false},
		{code.Instr{Op: code.Lock, A: 1, N: 3}, 1, false},
		{code.Instr{Op: code.Wait, B: 3, N: 3}, 1, true},
		{code.Instr{Op: code.Wait, B: 4, N: 3}, 1, false},
		{code.Instr{Op: code.WaitCtx, A: 5, B: 3, N: 3}, 1, true},
		{code.Instr{Op: code.WaitCtx, A: 5, B: 4, N: 3}, 1, false},
		{code.Instr{Op: code.Spawn, A: 5, B: 7}, 1, true},
		{code.Instr{Op: code.Spawn, A: 5, B: 8}, 1, false},
		{code.Instr{Op: code.Spawn, A: 5, B: -1}, 1, false},
		{code.Instr{Op: code.After, A: 5, B: 5, N: 7}, 1, true},
		{code.Instr{Op: code.After, A: 5, B: 5, N: 8}, 1, false},
		{code.Instr{Op: code.Fail, A: 5}, 1, true},
		{code.Instr{Op: code.Fail, A: 5, N: 1}, 1, false},
		{code.Instr{Op: 47}, 1, false},
		{code.Instr{Op: -1}, 1, false},
		{code.Instr{Op: 256}, 1, false},
		{code.Instr{Op: math.MaxInt}, 1, false},
		{code.Instr{Op: math.MinInt}, 1, false},
	} {
		wantRight(t, c.x, c.long, c.want)
	}
}

// P16.1: a place is from the first instruction to right behind the last one, whatever the length.
func TestPlaces(t *testing.T) {
	for _, op := range []int{code.Zero, code.Less} {
		for long := range 30 {
			for n := range int64(40) {
				wantRight(t, code.Instr{Op: op, N: n}, long, n <= int64(long))
				wantRight(t, code.Instr{Op: op, N: -n - 1}, long, false)
			}
		}
		for _, long := range []int{-1, -2, -24, math.MinInt} {
			for _, n := range append(parts(), int64(long)) {
				wantRight(t, code.Instr{Op: op, N: n}, long, false)
			}
		}
		wantRight(t, code.Instr{Op: op, N: 1 << 32}, 24, false)
		wantRight(t, code.Instr{Op: op, N: math.MaxInt}, math.MaxInt, true)
		wantRight(t, code.Instr{Op: op, N: math.MaxInt - 1}, math.MaxInt, true)
		wantRight(t, code.Instr{Op: op, N: math.MaxInt}, math.MaxInt-1, false)
	}
}

// P16.1: each part alone, at its ends and beyond them; all others are 0, which each of them may be.
func TestEachPartAlone(t *testing.T) {
	for _, r := range table {
		for _, long := range []int{0, 1, 24} {
			for i := range 3 {
				from, to := bounds(r.form[i], long)
				for _, n := range []int64{from, to, from - 1, to + 1, 0, math.MinInt, math.MaxInt, least, top} {
					x := code.Instr{Op: r.op}
					switch i {
					case 0:
						x.A = int(n)
					case 1:
						x.B = int(n)
					case 2:
						x.N = n
					}
					wantRight(t, x, long, from <= n && n <= to)
				}
			}
		}
	}
}

// P16.1: each Op with all of these parts at once, in programs of each of these lengths.
func TestRightAsSaid(t *testing.T) {
	for _, r := range table {
		for _, long := range lengths() {
			for _, a := range parts() {
				for _, b := range []int64{0, 1, 3, 4, 5, 6, 7, 8, 256, top, -1, least} {
					for _, n := range parts() {
						x := code.Instr{Op: r.op, A: int(a), B: int(b), N: n}
						want := within(a, r.form[0], long) && within(b, r.form[1], long) && within(n, r.form[2], long)
						if code.Right(x, long) != want {
							t.Fatalf("Right(%v, %d) = %t", x, long, !want)
						}
					}
				}
			}
		}
	}
}

// P16.1: no part makes an Op right that there is none of.
func TestRightOfNoOp(t *testing.T) {
	for _, op := range noOps() {
		for _, long := range lengths() {
			for _, n := range parts() {
				for _, x := range []code.Instr{{Op: op}, {Op: op, A: int(n)}, {Op: op, B: int(n)}, {Op: op, N: n}} {
					wantRight(t, x, long, false)
				}
			}
		}
	}
}

// P16.1: from one instruction to 24.
func TestMayByLength(t *testing.T) {
	wantMay(t, nil, false)
	wantMay(t, []code.Instr{}, false)
	for many := range 1000 {
		if code.May(halts(many)) != (1 <= many && many <= 24) {
			t.Errorf("May of %d instructions = %t", many, code.May(halts(many)))
		}
	}
	for _, many := range []int{1 << 16, 1<<16 + 1, 1 << 20} {
		if code.May(halts(many)) {
			t.Errorf("May of %d instructions = true", many)
		}
	}
	wantMay(t, mixed(), true)
	wantMay(t, slices.Concat(mixed(), mixed(), mixed(), mixed()), true)
	wantMay(t, slices.Concat(mixed(), mixed(), mixed(), mixed(), mixed()[:1]), false)
}

// P16.1: one that may not be, wherever it stands, is enough.
func TestMayByEach(t *testing.T) {
	wrong := []code.Instr{
		{Op: 47}, {Op: -1}, {Op: 256}, {A: 1}, {B: 1}, {N: 1}, {Op: code.Set, A: 6}, {Op: code.Spawn, B: 8}, {Op: code.Lock, N: 4},
		{Op: code.After, N: 8}, {Op: code.Zero, N: -1}, {Op: code.Zero, N: 25}, {Op: code.Set, A: math.MinInt}, {Op: code.Lock, N: least},
	}
	for _, many := range []int{1, 2, 3, 23, 24} {
		for at := range many {
			for _, x := range wrong {
				wantMay(t, put(halts(many), at, x), false)
			}
			for n := range int64(27) {
				wantMay(t, put(halts(many), at, code.Instr{Op: code.Zero, N: n}), n <= int64(many))
				wantMay(t, put(halts(many), at, code.Instr{Op: code.Less, B: 1, N: n}), n <= int64(many))
			}
		}
		wantMay(t, put(put(halts(many), 0, wrong[0]), many-1, wrong[1]), false)
	}
}

// P16.1: May is Right of each, in a program of just that length.
func TestMayAsSaid(t *testing.T) {
	r := rand.New(rand.NewSource(1))
	for range 20000 {
		many := r.Intn(27)
		l := anyProgram(r, many)
		for i := range l {
			if r.Intn(3*many) == 0 {
				l[i] = code.Instr{Op: r.Intn(50) - 1, A: r.Intn(9) - 1, B: r.Intn(9) - 1, N: r.Int63n(28) - 1}
			}
		}
		wantMay(t, l, may(l))
	}
}

// P16.1: of none, and of unlike lengths.
func TestSameByLength(t *testing.T) {
	wantSame(t, nil, nil, true)
	wantSame(t, nil, []code.Instr{}, true)
	wantSame(t, []code.Instr{}, []code.Instr{}, true)
	for _, many := range []int{1, 2, 24, 25, 1000} {
		wantSame(t, halts(many), nil, false)
		wantSame(t, halts(many), []code.Instr{}, false)
		wantSame(t, halts(many), halts(many), true)
		wantSame(t, halts(many), halts(many+1), false)
		wantSame(t, halts(many), halts(many + 1)[:many], true)
	}
	wantSame(t, mixed(), mixed(), true)
	wantSame(t, mixed(), mixed()[:5], false)
	wantSame(t, mixed(), mixed()[1:], false)
}

// P16.1: each part counts, wherever it stands, and of programs that may not be, too.
func TestSameByEach(t *testing.T) {
	for _, l := range [][]code.Instr{halts(1), halts(2), halts(24), halts(40), mixed(), {{Op: 99, A: -7, B: 300, N: least}}} {
		wantSame(t, l, slices.Clone(l), true)
		for at, x := range l {
			for _, d := range []int{1, -1, 256, -256, 1 << 16, 1 << 32, -1 << 32, math.MinInt, math.MaxInt} {
				wantSame(t, l, put(l, at, code.Instr{Op: x.Op + d, A: x.A, B: x.B, N: x.N}), false)
				wantSame(t, l, put(l, at, code.Instr{Op: x.Op, A: x.A + d, B: x.B, N: x.N}), false)
				wantSame(t, l, put(l, at, code.Instr{Op: x.Op, A: x.A, B: x.B + d, N: x.N}), false)
				wantSame(t, l, put(l, at, code.Instr{Op: x.Op, A: x.A, B: x.B, N: x.N + int64(d)}), false)
			}
		}
	}
	a, b := code.Instr{Op: code.Move, A: 1, B: 2}, code.Instr{Op: code.Move, A: 2, B: 1}
	wantSame(t, []code.Instr{a}, []code.Instr{b}, false)
	wantSame(t, []code.Instr{a, b}, []code.Instr{b, a}, false)
	wantSame(t, []code.Instr{a, a, b}, []code.Instr{a, b, b}, false)
	wantSame(t, []code.Instr{a, b}, []code.Instr{a, b}, true)
}

// P16.2: how many, and of each its Op, A, B and N, written out.
func TestBytes(t *testing.T) {
	wantBytes(t, halts(1), 1, 0, 0, 0, 0, 0, 0, 0, 0, 0, 0, 0)
	wantBytes(t, []code.Instr{{Op: code.Fail, A: 5}}, 1, 46, 5, 0, 0, 0, 0, 0, 0, 0, 0, 0)
	wantBytes(t, []code.Instr{{Op: code.WaitCtx, A: 5, B: 3, N: 2}}, 1, 29, 5, 3, 0, 0, 0, 0, 0, 0, 0, 2)
	wantBytes(t, []code.Instr{{Op: code.Go, A: 1, B: 7, N: 3}, {Op: code.Zero, A: 2, N: 2}},
		2, 39, 1, 7, 0, 0, 0, 0, 0, 0, 0, 3, 4, 2, 0, 0, 0, 0, 0, 0, 0, 0, 2)
	wantBytes(t, halts(24), put(make([]byte, 1+24*one), 0, 24)...)
}

// P16.2: a number's bytes, the highest one first.
func TestBytesOfNumbers(t *testing.T) {
	for _, c := range []struct {
		n int64
		b []byte
	}{
		{0, []byte{0, 0, 0, 0, 0, 0, 0, 0}},
		{1, []byte{0, 0, 0, 0, 0, 0, 0, 1}},
		{127, []byte{0, 0, 0, 0, 0, 0, 0, 127}},
		{128, []byte{0, 0, 0, 0, 0, 0, 0, 128}},
		{255, []byte{0, 0, 0, 0, 0, 0, 0, 255}},
		{256, []byte{0, 0, 0, 0, 0, 0, 1, 0}},
		{258, []byte{0, 0, 0, 0, 0, 0, 1, 2}},
		{1<<31 - 1, []byte{0, 0, 0, 0, 127, 255, 255, 255}},
		{1 << 31, []byte{0, 0, 0, 0, 128, 0, 0, 0}},
		{1 << 32, []byte{0, 0, 0, 1, 0, 0, 0, 0}},
		{0x0102030405060708, []byte{1, 2, 3, 4, 5, 6, 7, 8}},
		{0x7080706050403020, []byte{0x70, 0x80, 0x70, 0x60, 0x50, 0x40, 0x30, 0x20}},
		{top - 1, []byte{127, 255, 255, 255, 255, 255, 255, 254}},
		{top, []byte{127, 255, 255, 255, 255, 255, 255, 255}},
		{-1, []byte{255, 255, 255, 255, 255, 255, 255, 255}},
		{-2, []byte{255, 255, 255, 255, 255, 255, 255, 254}},
		{-256, []byte{255, 255, 255, 255, 255, 255, 255, 0}},
		{-257, []byte{255, 255, 255, 255, 255, 255, 254, 255}},
		{-1 << 31, []byte{255, 255, 255, 255, 128, 0, 0, 0}},
		{-1 << 32, []byte{255, 255, 255, 255, 0, 0, 0, 0}},
		{least + 1, []byte{128, 0, 0, 0, 0, 0, 0, 1}},
		{least, []byte{128, 0, 0, 0, 0, 0, 0, 0}},
	} {
		l := []code.Instr{{Op: code.Cancel, A: 3, N: c.n}}
		b := append([]byte{1, 14, 3, 0}, c.b...)
		wantBytes(t, l, b...)
		wantRead(t, b, 12, l...)
	}
}

// P16.2: of programs that may not be there are no bytes.
func TestBytesOfNone(t *testing.T) {
	for _, l := range [][]code.Instr{
		nil, {}, halts(25), halts(255), halts(256), halts(257), halts(1 << 16), {{Op: 47}}, {{Op: -1}}, {{Op: 256}}, {{A: 1}}, {{B: 1}}, {{N: 1}},
		{{Op: code.Set, A: 6}}, {{Op: code.Set, A: 256}}, {{Op: code.Set, A: -256}}, {{Op: code.Zero, N: 2}}, {{Op: code.Lock, N: 1 << 32}},
		{{}, {Op: 47}}, {{Op: 47}, {}}, {{}, {Op: code.Zero, N: 3}, {Op: 99}}, {{Op: math.MinInt, A: math.MinInt, B: math.MinInt, N: least}},
	} {
		wantNoBytes(t, l)
	}
	for at := range 24 {
		wantNoBytes(t, put(halts(24), at, code.Instr{Op: code.Zero, N: 25}))
	}
}

// P16.2: no bytes, and each first byte with nothing, and with as much as may be, behind.
func TestReadFirstByte(t *testing.T) {
	wantNoRead(t, nil, api.ErrShort)
	wantNoRead(t, []byte{}, api.ErrShort)
	for first := range 256 {
		alone, among := []byte{byte(first)}, put(make([]byte, 1+255*one), 0, byte(first))
		if 1 <= first && first <= 24 {
			wantNoRead(t, alone, api.ErrShort)
			wantRead(t, among, 1+first*one, halts(first)...)
			continue
		}
		wantNoRead(t, alone, api.ErrForm)
		wantNoRead(t, among, api.ErrForm)
		wantNoRead(t, among[:1+one], api.ErrForm)
	}
}

// P16.2: each length that is cut off, be there bytes behind in the same memory or not.
func TestReadCut(t *testing.T) {
	for _, l := range [][]code.Instr{halts(1), halts(2), mixed(), halts(24)} {
		b := told(l)
		for size := range b {
			wantNoRead(t, b[:size], api.ErrShort)
			wantNoRead(t, slices.Clip(slices.Clone(b[:size])), api.ErrShort)
		}
		wantRead(t, b, len(b), l...)
		wantRead(t, slices.Clip(slices.Clone(b)), len(b), l...)
	}
}

// P16.2: which error comes first, where several would.
func TestReadFirstError(t *testing.T) {
	noOp := []byte{47, 0, 0, 0, 0, 0, 0, 0, 0, 0, 0}
	for _, first := range []byte{0, 25, 128, 255} {
		wantNoRead(t, append([]byte{first}, noOp...), api.ErrForm)
		wantNoRead(t, append([]byte{first}, noOp[:5]...), api.ErrForm)
	}
	wantNoRead(t, append([]byte{2}, noOp...), api.ErrShort)
	wantNoRead(t, append([]byte{1}, noOp[:10]...), api.ErrShort)
	wantNoRead(t, append([]byte{1}, noOp...), api.ErrArg)
	wantNoRead(t, slices.Concat([]byte{2}, noOp, noOp), api.ErrArg)
	wantNoRead(t, slices.Concat([]byte{2}, noOp, noOp[:10]), api.ErrShort)
}

// P16.2: what stands behind the program counts for nothing, and isn't counted.
func TestReadWithOthersBehind(t *testing.T) {
	for _, l := range [][]code.Instr{halts(1), mixed(), halts(24)} {
		b := told(l)
		for _, behind := range [][]byte{{0}, {255}, {7, 7}, make([]byte, one), bytes.Repeat([]byte{255}, one), told(l), bytes.Repeat([]byte{47}, 5000)} {
			wantRead(t, append(slices.Clone(b), behind...), len(b), l...)
		}
	}
	// Another place, or another instruction, isn't there because there are bytes behind.
	b := told([]code.Instr{{}, {Op: code.Zero, N: 2}})
	wantRead(t, append(b, make([]byte, 3*one)...), 23, code.Instr{}, code.Instr{Op: code.Zero, N: 2})
	b[len(b)-1] = 3
	wantNoRead(t, append(b, make([]byte, 3*one)...), api.ErrArg)
}

// P16.2: each byte that an Op, A, or B may be told by, with each Op.
func TestReadBytesOfParts(t *testing.T) {
	for op := range 256 {
		for part := range 256 {
			for _, n := range []byte{0, 1, 3, 4, 7, 8} {
				wantReadAsSaid(t, []byte{1, byte(op), byte(part), 0, 0, 0, 0, 0, 0, 0, 0, n})
				wantReadAsSaid(t, []byte{1, byte(op), 0, byte(part), 0, 0, 0, 0, 0, 0, 0, n})
			}
		}
	}
}

// P16.2: each byte of a number, with each Op.
func TestReadBytesOfNumbers(t *testing.T) {
	for _, r := range table {
		for at := 4; at < 12; at++ {
			for x := range 256 {
				wantReadAsSaid(t, put([]byte{1, byte(r.op), 0, 0, 0, 0, 0, 0, 0, 0, 0, 0}, at, byte(x)))
			}
		}
	}
}

// P16.2: one that may not be, wherever it stands, is enough; a place is held against how many there are.
func TestReadWrongAnywhere(t *testing.T) {
	for _, many := range []int{1, 2, 3, 24} {
		for at := range many {
			b := told(halts(many))
			for _, x := range []byte{47, 128, 255} {
				wantNoRead(t, put(b, 1+at*one, x), api.ErrArg)
			}
			for i := 1; i < one; i++ {
				wantNoRead(t, put(b, 1+at*one+i, 1), api.ErrArg)
			}
			for n := range 30 {
				wantReadAsSaid(t, told(put(halts(many), at, code.Instr{Op: code.Zero, N: int64(n)})))
			}
		}
	}
}

// P16.3: programs come back from their bytes, whatever stands behind.
func TestProgramsComeBack(t *testing.T) {
	r := rand.New(rand.NewSource(2))
	for round := range 20000 {
		many := 1 + round%24
		l := anyProgram(r, many)
		b := bytesOf(t, l)
		if len(b) != 1+many*one || !bytes.Equal(b, told(l)) {
			t.Fatalf("Bytes(%v) = %v", l, b)
		}
		behind := make([]byte, r.Intn(40))
		r.Read(behind)
		back, n, e := code.Read(append(slices.Clone(b), behind...))
		if e != api.OK || n != len(b) || !slices.Equal(back, l) || !code.Same(back, l) || !code.Same(l, back) {
			t.Fatalf("Read(%v) = %v, %d, %d, want %v, %d", b, back, n, e, l, len(b))
		}
	}
}

// P16.3: each Op with each part at either end comes back.
func TestEachOpComesBack(t *testing.T) {
	for _, r := range table {
		for many := 1; many <= 24; many++ {
			for ends := range 8 {
				part := func(i int) int64 {
					from, to := bounds(r.form[i], many)
					if ends>>i&1 == 0 {
						return from
					}
					return to
				}
				l := halts(many)
				l[many-1] = code.Instr{Op: r.op, A: int(part(0)), B: int(part(1)), N: part(2)}
				wantMay(t, l, true)
				wantRead(t, bytesOf(t, l), 1+many*one, l...)
			}
		}
	}
}

// P16.3: bytes come back from programs; whatever bytes are read, the answer is what the document says.
func TestBytesComeBack(t *testing.T) {
	r := rand.New(rand.NewSource(3))
	read := 0
	for round := range 100000 {
		b := told(anyProgram(r, 1+r.Intn(24)))
		for range round % 3 {
			b[r.Intn(len(b))] = byte(r.Intn(256) >> r.Intn(8))
		}
		switch round % 5 {
		case 3:
			b = b[:r.Intn(len(b)+1)]
		case 4:
			b = append(b, b...)
		}
		wantReadAsSaid(t, b)
		l, n, e := code.Read(b)
		if e != api.OK {
			continue
		}
		read++
		if back := bytesOf(t, l); !bytes.Equal(back, b[:n]) {
			t.Fatalf("Bytes(Read(%v)) = %v, want %v", b, back, b[:n])
		}
	}
	if read < 10000 {
		t.Errorf("no more than %d programs were read", read)
	}
}

// P16.3: programs that are the same have the same bytes, others have others.
func TestOthersHaveOtherBytes(t *testing.T) {
	seen := map[string][]code.Instr{}
	r := rand.New(rand.NewSource(4))
	for range 20000 {
		l := anyProgram(r, 1+r.Intn(2))
		b := string(bytesOf(t, l))
		if other, is := seen[b]; is {
			wantSame(t, l, other, true)
		}
		seen[b] = l
	}
	var last []code.Instr
	for _, l := range seen {
		wantSame(t, l, last, false)
		last = l
	}
}

// R3: a program that is passed in is left as it was, with what stands behind it in its memory.
func TestProgramsAreLeft(t *testing.T) {
	for _, l := range [][]code.Instr{halts(1), mixed(), halts(24), halts(25), {{Op: 99}}, {}} {
		all := append(slices.Clone(l), code.Instr{Op: 77, A: 78, B: 79, N: 80}, code.Instr{Op: 81})
		was := slices.Clone(all)
		given := all[:len(l)]
		code.May(given)
		code.Bytes(given)
		code.Same(given, l)
		code.Same(l, given)
		if !slices.Equal(all, was) {
			t.Errorf("a program was %v, and is %v", was, all)
		}
	}
}

// R3: bytes that are passed in are left as they were, with what stands behind them in their memory.
func TestBytesAreLeft(t *testing.T) {
	for _, b := range [][]byte{told(halts(1)), told(mixed()), told(halts(24)), {0}, {25}, {1}, {1, 47, 0, 0, 0, 0, 0, 0, 0, 0, 0, 0}, {}} {
		all := append(slices.Clone(b), 9, 8, 7, 6, 5)
		was := slices.Clone(all)
		for size := len(b); size <= len(all); size++ {
			l, _, _ := code.Read(all[:size])
			for i := range l {
				l[i] = code.Instr{Op: 77, A: 78, B: 79, N: 80}
			}
			_ = append(l, code.Instr{Op: 81})
			if !bytes.Equal(all, was) {
				t.Errorf("bytes were %v, and are %v", was, all)
			}
		}
	}
}

// R3: what was told may be changed without changing what it was told of, or what is told then, and the other way about.
func TestWhatIsToldIsNew(t *testing.T) {
	l := mixed()
	b, want := bytesOf(t, l), told(l)
	other := bytesOf(t, l)
	clear(b)
	_ = append(b, 1, 2, 3)
	if !bytes.Equal(other, want) || !slices.Equal(l, mixed()) {
		t.Errorf("a program's bytes share memory: %v, of %v", other, l)
	}
	back, n, e := code.Read(other)
	again, _, _ := code.Read(other)
	clear(back)
	if n != len(want) || e != api.OK || !slices.Equal(again, mixed()) || !bytes.Equal(other, want) {
		t.Errorf("a program that was read shares memory: %v, of %v", again, other)
	}
	clear(other)
	if !slices.Equal(again, mixed()) {
		t.Errorf("a program changes with the bytes that it was read from: %v", again)
	}
	kept := bytesOf(t, l)
	clear(l)
	if !bytes.Equal(kept, want) {
		t.Errorf("bytes change with the program that they were told of: %v", kept)
	}
	wantBytes(t, mixed(), want...)
	wantRead(t, want, len(want), mixed()...)
}

// R4 and R5: the same calls answer the same, whatever was called between them, right or wrong.
func TestNothingIsKept(t *testing.T) {
	r := rand.New(rand.NewSource(5))
	for range 2000 {
		l := anyProgram(r, 1+r.Intn(24))
		b := bytesOf(t, l)
		code.Read(append([]byte{byte(r.Intn(30))}, make([]byte, r.Intn(400))...))
		code.Bytes(halts(r.Intn(40)))
		code.May([]code.Instr{{Op: r.Intn(60), A: r.Intn(9)}})
		code.Right(code.Instr{Op: r.Intn(60), N: r.Int63()}, r.Intn(30))
		wantMay(t, l, true)
		wantBytes(t, l, b...)
		wantRead(t, b, len(b), l...)
	}
}
