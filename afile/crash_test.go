package afile_test

import (
	"fmt"
	"math"
	"math/rand"
	"slices"
	"strings"
	"testing"

	"codex/afile"
	"codex/api"
	"codex/block"
)

const manyTurns = 300 // more than any call here has

// crash is what is kept of what is pending.
type crash struct {
	keep      []bool
	torn, cut int
}

// crashes is, of so many pending writes, none that is kept, all, each alone, all but each, and each torn.
func crashes(pending int) []crash {
	all := slices.Repeat([]bool{true}, pending)
	l := []crash{{nil, -1, 0}}
	if pending > 0 {
		l = append(l, crash{all, -1, 0})
	}
	for k := 0; k < pending; k += 1 + pending/6 {
		one, others := make([]bool, pending), slices.Clone(all)
		one[k], others[k] = true, false
		l = append(l, crash{one, -1, 0}, crash{others, -1, 0}, crash{others, k, 1 + 37*k%255}, crash{nil, k, 255}, crash{all[:k], k, 12})
	}
	return l
}

// scene is calls that are answered, and one whose power goes.
type scene struct {
	n     int
	ahead []call
	last  call
}

func scenes() []scene {
	files := []call{create("a"), create("b"), create("c"), add("a", bytes("a", 300)), add("b", bytes("b", 600)), seal("b"), add("a", bytes("a+", 300))}
	var full []call
	for i := range 20 {
		full = append(full, create(fmt.Sprint("f", i)), add(fmt.Sprint("f", i), bytes("f", 256)))
	}
	return []scene{
		{128, nil, create("a")},
		{128, []call{create("a")}, add("a", "x")},
		{128, files, create("d")},
		{128, files, seal("a")},
		{128, files, add("a", bytes("more", 40))},
		{128, files, add("a", bytes("much more", 1000))},
		{200, files, add("a", bytes("most", 6000))},
		{128, files, remove("b")},
		{128, files, rename("a", "d")},
		{128, files, rename("a", "b")},
		{128, files, rename("c", "a")},
		{128, append(slices.Clone(full), remove("f3"), remove("f7"), remove("f12")), add("f1", bytes("in pieces", 5*256))},
		{2065, append(slices.Clone(full), create("z")), rename("f3", "z")},
	}
}

// build is a scene's files, its last call not made.
func (x scene) build(t *testing.T, most int) *pair {
	t.Helper()
	b := newPair(t, x.n, most)
	for _, c := range x.ahead {
		b.errs(t, c, api.OK)
	}
	return b
}

// wantOneOf asks that files are those of one of some maps, and tells which one.
func wantOneOf(t *testing.T, what string, f *afile.FS, l ...*plain) *plain {
	t.Helper()
	fault := ""
	for _, p := range l {
		if fault = p.unlike(f); fault == "" {
			return p
		}
	}
	t.Fatalf("%s: the files are none of %d that they may be; they are not the last ones, as %s", what, len(l), fault)
	return nil
}

// wantDead asks what is told behind a call whose power went.
func wantDead(t *testing.T, what string, b *pair) {
	t.Helper()
	if fault := b.p.unlikeWithoutPower(b.f); fault != "" {
		t.Fatalf("%s: %s", what, fault)
	}
	for _, x := range calls() {
		if s, e := x.of(b.f); s != "" || e != api.ErrDead {
			t.Fatalf("%s: %v: %q, %v", what, x, s, e)
		}
	}
}

// unlikeWithoutPower is what may be asked while the power is gone: Free, Used and List tell some answer.
func (p *plain) unlikeWithoutPower(f *afile.FS) string {
	f.Free()
	f.Used()
	f.List()
	if !f.Whole() {
		return "Whole: false"
	}
	return ""
}

// goOn makes one more row of calls, which must be OK.
func goOn(t *testing.T, b *pair) {
	t.Helper()
	b.alone = true
	b.row(t, create("going.on"), add("going.on", bytes("on", 300)), create("too"), rename("going.on", "too"), seal("too"), remove("too"))
	for _, name := range b.p.names() {
		if !b.p.files[name].sealed {
			b.row(t, add(name, "goes on"))
			break
		}
	}
}

// A7: of each turn of each call, and each way to crash there: the files that are opened, and those that go on.
func TestCallWhosePowerGoes(t *testing.T) {
	t.Parallel()
	for n, x := range scenes() {
		t.Run(fmt.Sprint("scene ", n), func(t *testing.T) {
			t.Parallel()
			first := x.build(t, 64)
			k := 0
			for ; k < manyTurns && callWhosePowerGoes(t, x, first, k); k++ {
			}
			if k < 6 || k == manyTurns {
				t.Errorf("%d turns", k)
			}
		})
	}
}

// callWhosePowerGoes tells whether the power went, with a fuse of k.
func callWhosePowerGoes(t *testing.T, x scene, first *pair, k int) bool {
	t.Helper()
	pending := -1
	for c := 0; pending < 0 || c < len(crashes(pending)); c++ {
		b := first.copied(t, 64)
		after := b.p.copied()
		x.last.of(after)
		b.fuse(k)
		e, fault := b.do(x.last)
		what := fmt.Sprint("fuse ", k, ", crash ", c)
		if fault != "" {
			t.Fatalf("%s: %s", what, fault)
		}
		if e == api.OK {
			b.like(t, what)
			return false
		}
		wantErrno(t, what, e, api.ErrDead)
		wantDevice(t, what, b.d, b.twin)
		wantDead(t, what, b)
		pending = len(b.d.Pending())
		way := crashes(pending)[c]
		b.d.Crash(way.keep, way.torn, way.cut)
		lies := b.d.Disk()
		wantFiles(t, what+", the power is back", b.f, b.p)
		wantOneOf(t, what+", opened", open(t, deviceOf(t, lies), 65), b.p, after)
		if !slices.Equal(b.d.Disk(), lies) || len(b.d.Pending()) > 0 {
			t.Fatalf("%s: what was asked wrote to the device", what)
		}
		goOn(t, b)
		wantFiles(t, what+", gone on, opened", open(t, copyOf(t, b.d), 64), b.p)
		b.d.Crash([]bool{c%2 == 0, c%3 == 0}, 1, 100)
		wantFiles(t, what+", gone on, a crash, opened", open(t, b.d, 64), b.p)
	}
	return true
}

// A call that was OK is there, whatever is kept of what is pending behind it.
func TestCallIsKept(t *testing.T) {
	t.Parallel()
	for n, x := range scenes() {
		t.Run(fmt.Sprint("scene ", n), func(t *testing.T) {
			t.Parallel()
			pending := -1
			for c := 0; pending < 0 || c < len(crashes(pending)); c++ {
				b := x.build(t, 64)
				b.row(t, x.last)
				pending = len(b.d.Pending())
				way := crashes(pending)[c]
				b.d.Crash(way.keep, way.torn, way.cut)
				what := fmt.Sprint("crash ", c)
				wantFiles(t, what, open(t, copyOf(t, b.d), 64), b.p)
				wantFiles(t, what+", not opened", b.f, b.p)
				goOn(t, b)
				wantFiles(t, what+", gone on", open(t, b.d, 64), b.p)
			}
		})
	}
}

// Behind a call that was refused all is as it was, whatever is kept.
func TestRefusedIsNotKept(t *testing.T) {
	for _, x := range calls() {
		b := some(t)
		next := b.p.copied()
		if _, e := x.of(next); e == api.OK {
			continue
		}
		b.do(x)
		b.crash([]bool{true, false, true}, 1, 50)
		wantFiles(t, fmt.Sprint(x), open(t, b.d, 64), b.p)
	}
}

// A1: the power goes at each turn of Format.
func TestFormatWhosePowerGoes(t *testing.T) {
	t.Parallel()
	for _, n := range []int{128, 2049} {
		t.Run(fmt.Sprint(n, " blocks"), func(t *testing.T) {
			t.Parallel()
			k := 0
			for ; k < manyTurns && formatWhosePowerGoes(t, n, k); k++ {
			}
			if k < 20 || k == manyTurns {
				t.Errorf("%d turns of Format", k)
			}
		})
	}
}

// formatWhosePowerGoes tells whether the power went, with a fuse of k.
func formatWhosePowerGoes(t *testing.T, n, k int) bool {
	t.Helper()
	what := fmt.Sprint("Format with a fuse of ", k)
	d, twin := filled(t, n), filled(t, n)
	d.Fuse(k)
	twin.Fuse(k)
	e := afile.Format(d)
	wantErrno(t, what, e, formatByStore(twin))
	wantDevice(t, what, d, twin)
	if e != api.OK {
		wantErrno(t, what, e, api.ErrDead)
	}
	ways := crashes(len(d.Pending()))
	for c := k % 3; c < len(ways); c += 1 + n/2000*6 { // of many blocks a seventh of the ways
		d, way := filled(t, n), ways[c]
		d.Fuse(k)
		wantErrno(t, what, afile.Format(d), e)
		d.Crash(way.keep, way.torn, way.cut)
		wantFormattedOrNot(t, fmt.Sprint(what, ", crash ", c), d, e == api.OK)
	}
	return e != api.OK
}

// wantFormattedOrNot asks what Open tells behind a Format.
func wantFormattedOrNot(t *testing.T, what string, d *block.Device, formatted bool) {
	t.Helper()
	f, e := afile.Open(d, 64)
	if e == api.OK {
		wantFiles(t, what, f, plainOf(d.Blocks()))
		return
	}
	if formatted || f != nil || e != api.ErrNone && e != api.ErrForm {
		t.Fatalf("%s: Open: %v, %v", what, f, e)
	}
	wantErrno(t, what+", again", afile.Format(d), api.OK)
	wantFiles(t, what+", again", open(t, d, 64), plainOf(d.Blocks()))
}

// Open, again and again without power, changes nothing.
func TestOpenWhosePowerGoes(t *testing.T) {
	t.Parallel()
	for n, x := range scenes() {
		b := x.build(t, 64)
		b.row(t, x.last)
		died := 0
		for k := range 40 {
			b.d.Crash([]bool{k%2 > 0, k%3 > 0, true}, k%5, 77)
			b.d.Fuse(k % 20)
			if f, e := afile.Open(b.d, 64); e == api.OK {
				b.d.Fuse(-1)
				wantFiles(t, fmt.Sprint("scene ", n), f, b.p)
			} else if died++; e != api.ErrDead || f != nil {
				t.Fatalf("Open: %v, %v", f, e)
			}
		}
		b.d.Crash(nil, -1, 0)
		wantFiles(t, fmt.Sprint("scene ", n, ", at the end"), open(t, b.d, 64), b.p)
		if died == 0 {
			t.Errorf("scene %d: Open had no turn", n)
		}
	}
}

// The power goes a second time, in the next call of files that go on.
func TestPowerGoesTwice(t *testing.T) {
	t.Parallel()
	for n, x := range scenes() {
		t.Run(fmt.Sprint("scene ", n), func(t *testing.T) {
			t.Parallel()
			from := x.build(t, 64)
			for first := 0; first < manyTurns; first += 1 + len(x.last.text)/1000 { // where there are many turns some of them
				second := 0
				for ; second < manyTurns && powerGoesTwice(t, x, from, first, second); second += 1 + (first+second)%3 {
				}
				if second == 0 {
					return
				}
			}
			t.Error("so many turns")
		})
	}
}

// powerGoesTwice tells whether the power went twice, with these fuses.
func powerGoesTwice(t *testing.T, x scene, from *pair, first, second int) bool {
	t.Helper()
	b := from.copied(t, 64)
	one := b.p.copied()
	x.last.of(one)
	b.fuse(first)
	if e, fault := b.do(x.last); e == api.OK || fault != "" {
		return false
	}
	keep := []bool{first%2 == 0, second%2 == 0, second%3 == 0, true}
	b.d.Crash(keep, (first+second)%4, 200)
	b.alone = true
	next := add("b", bytes("the second", 400))
	if b.p.files["b"] == nil || b.p.files["b"].sealed {
		next = create("second")
	}
	two := b.p.copied()
	next.of(two)
	b.d.Fuse(second)
	e := api.Errno(0)
	if _, e = next.of(b.f); e == api.OK {
		b.d.Fuse(-1)
		wantFiles(t, "the second call", b.f, two)
		return false
	}
	wantErrno(t, "the second call", e, api.ErrDead)
	what := fmt.Sprint("fuses ", first, ", ", second)
	b.d.Crash([]bool{second%2 == 1, first%3 == 0, true}, first%5, 30)
	wantFiles(t, what, b.f, b.p)
	wantOneOf(t, what+", opened", open(t, copyOf(t, b.d), 64), b.p, one, two)
	goOn(t, b)
	wantFiles(t, what+", gone on", open(t, b.d, 64), b.p)
	return true
}

// Rows of calls by chance

func someText(r *rand.Rand) string {
	l := noNames()
	return l[r.Intn(len(l))]
}

// someName is a name that is there, one that may be there, or none.
func someName(r *rand.Rand, p *plain) string {
	if l := p.names(); len(l) > 0 && r.Intn(5) > 0 {
		return l[r.Intn(len(l))]
	}
	if r.Intn(12) == 0 {
		return someText(r)
	}
	return newName(r)
}

func newName(r *rand.Rand) string {
	s := string("0a-z."[r.Intn(5)]) + fmt.Sprint(r.Intn(30)) + strings.Repeat("n", r.Intn(3)*r.Intn(11))
	return s[:min(24, len(s))]
}

func someSize(r *rand.Rand) int {
	switch r.Intn(12) {
	case 0:
		return []int{0, 1, 255, 256, 257, 511, 512, 513, 5999, 6000, 6001, 7000}[r.Intn(12)]
	case 1, 2:
		return r.Intn(6001)
	case 3, 4, 5:
		return r.Intn(1500)
	}
	return r.Intn(300)
}

func someAt(r *rand.Rand, size int) int {
	switch r.Intn(10) {
	case 0:
		return []int{-1, math.MinInt, math.MaxInt, size + 1, size + 2}[r.Intn(5)]
	case 1:
		return size
	case 2:
		return 256 * r.Intn(1+size/256)
	}
	return r.Intn(size + 1)
}

// chosenCall is some call, of files that are like p.
func chosenCall(r *rand.Rand, p *plain) call {
	name := someName(r, p)
	size := 0
	if f := p.files[name]; f != nil {
		size = len(f.data)
	}
	free := p.free()
	switch k := r.Intn(100); {
	case k < 12 || k < 40 && len(p.files) < 12:
		switch r.Intn(20) {
		case 0:
			name = someText(r)
		case 1, 2, 3:
		default:
			name = newName(r)
		}
		return create(name)
	case k < 60:
		n := someSize(r)
		if free < 30 && r.Intn(3) == 0 {
			n = max(0, 256*free+r.Intn(3)-1)
		}
		return add(name, bytes(fmt.Sprint(r.Intn(1e9)), n))
	case k < 75:
		n := someAt(r, size)
		if r.Intn(3) == 0 {
			n = r.Intn(700)
		}
		return readAt(name, someAt(r, size), n)
	case k < 78:
		return seal(name)
	case k < 88:
		to := someName(r, p)
		switch r.Intn(12) {
		case 0:
			to = someText(r)
		case 1, 2, 3, 4, 5, 6, 7:
			to = newName(r)
		}
		return rename(name, to)
	case k < 93 || free < 20:
		return remove(name)
	}
	return create(newName(r))
}

// step makes some call and asks what the files are, most often without reading all of them.
func (b *pair) step(t *testing.T, x call, whole bool) api.Errno {
	t.Helper()
	e, fault := b.do(x)
	if fault == "" {
		fault = b.p.unlikeList(b.f)
	}
	if fault == "" && whole {
		fault = b.p.unlike(b.f)
	}
	if fault != "" {
		t.Fatalf("behind %v: %s", x, fault)
	}
	return e
}

// A7: long rows of calls; the same ones, whatever most is.
func TestLongRows(t *testing.T) {
	t.Parallel()
	for seed, n := range []int{128, 140, 300, 700, 2060, 4096} {
		t.Run(fmt.Sprint(n, " blocks"), func(t *testing.T) {
			t.Parallel()
			r := rand.New(rand.NewSource(int64(seed)))
			l := []*pair{newPair(t, n, 64), newPair(t, n, 1024)}
			seen := map[string]int{}
			for i := range 2000 {
				x := chosenCall(r, l[0].p)
				for _, b := range l {
					seen[fmt.Sprint(x.name, " ", int(b.step(t, x, i%20 == 0)))]++
				}
				if i%10 == 0 {
					wantDevice(t, "behind a row", l[0].d, l[0].twin)
					wantDevice(t, "most of 64, and of 1024", l[0].d, l[1].d)
				}
				if r.Intn(200) == 0 {
					for _, b := range l {
						b.crash(nil, -1, 0)
						b.again(t, 64+r.Intn(100))
					}
				}
			}
			wantSeen(t, seen, n)
		})
	}
}

// wantSeen asks that a row held what it was made for.
func wantSeen(t *testing.T, seen map[string]int, n int) {
	t.Helper()
	l := []string{"Create 0", "Create 11", "Create 12", "Append 0", "Append 5", "Append 10", "Append 13", "ReadAt 0", "ReadAt 2", "ReadAt 10", "Seal 0", "Seal 10", "Rename 0", "Rename 10", "Rename 12", "Delete 0", "Delete 10"}
	if n <= 300 {
		l = append(l, "Append 9")
	}
	for _, what := range l {
		if seen[what] == 0 {
			t.Errorf("no %s: %v: the test held too little", what, seen)
		}
	}
}

// unsteady is files whose power goes by chance.
type unsteady struct {
	*pair
	r       *rand.Rand
	perhaps []*plain // what the files may be, too, if they are opened: made by the calls that erred since the last one that wrote
	seen    map[string]int
}

// crash crashes the device, with whatever is kept.
func (u *unsteady) crash() {
	n := len(u.d.Pending())
	keep := make([]bool, u.r.Intn(n+2))
	for k := range keep {
		keep[k] = u.r.Intn(2) == 0
	}
	u.pair.crash(keep, u.r.Intn(n+2)-1, u.r.Intn(257))
}

// reopen opens the files, which may be what a call made that erred.
func (u *unsteady) reopen(t *testing.T) {
	t.Helper()
	if u.r.Intn(4) == 0 { // the power goes while they are opened
		u.d.Fuse(u.r.Intn(12))
		if f, e := afile.Open(u.d, 64); e != api.OK {
			if f != nil || e != api.ErrDead {
				t.Fatalf("Open: %v, %v", f, e)
			}
			u.seen["an Open that erred"]++
		}
		u.d.Crash([]bool{u.r.Intn(2) == 0, u.r.Intn(2) == 0, u.r.Intn(2) == 0}, u.r.Intn(4), u.r.Intn(257))
	}
	u.f = open(t, u.d, 64+u.r.Intn(20))
	u.p = wantOneOf(t, "opened", u.f, append(u.perhaps, u.p)...).copied()
	u.perhaps = nil
	u.alone = true
}

// call makes some call, with a fuse.
func (u *unsteady) call(t *testing.T, x call) {
	t.Helper()
	after := u.p.copied()
	want, wantE := x.of(after)
	wrote := wantE == api.OK && len(after.writes(u.p)) > 0
	u.d.Fuse(u.r.Intn(60))
	text, e := x.of(u.f)
	if e == api.ErrDead && wrote {
		u.seen["a call that erred"]++
		u.perhaps = append(u.perhaps, after)
		if fault := u.p.unlikeWithoutPower(u.f); fault != "" {
			t.Fatalf("%v without power: %s", x, fault)
		}
		u.crash()
		u.afterCrash(t)
		return
	}
	if e != wantE || text != want || u.d.Dead() {
		t.Fatalf("%v: %d bytes, %v; want %d, %v", x, len(text), e, len(want), wantE)
	}
	u.d.Fuse(-1)
	if wrote {
		u.perhaps = nil
	}
	if e == api.OK {
		after.wrote = nil
		u.p = after
	}
	if fault := u.p.unlikeList(u.f); fault != "" {
		t.Fatalf("behind %v: %s", x, fault)
	}
}

// afterCrash opens the files, or lets them go on.
func (u *unsteady) afterCrash(t *testing.T) {
	t.Helper()
	if u.r.Intn(2) == 0 {
		u.reopen(t)
		return
	}
	wantFiles(t, "they go on", u.f, u.p)
	u.seen["files that go on"]++
}

// A7: crashes at any turn, and Open behind them, or the files going on.
func TestLongRowsWithCrashes(t *testing.T) {
	t.Parallel()
	for seed := range 18 {
		t.Run(fmt.Sprint("seed ", seed), func(t *testing.T) {
			t.Parallel()
			n := []int{128, 140, 300, 2049, 2080, 4096}[seed%6]
			u := &unsteady{pair: newPair(t, n, 64), r: rand.New(rand.NewSource(int64(seed))), seen: map[string]int{}}
			u.alone = true
			for range 1000 {
				if u.r.Intn(40) == 0 { // no call is going on
					u.crash()
					u.seen["a crash by itself"]++
					u.afterCrash(t)
					continue
				}
				u.call(t, chosenCall(u.r, u.p))
			}
			u.d.Crash(nil, -1, 0)
			u.reopen(t)
			for _, what := range []string{"a call that erred", "files that go on", "a crash by itself", "an Open that erred"} {
				if u.seen[what] == 0 {
					t.Errorf("%v: the test held too little", u.seen)
				}
			}
		})
	}
}
