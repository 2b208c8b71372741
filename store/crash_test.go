package store_test

import (
	"fmt"
	"math"
	"math/rand"
	"slices"
	"strings"
	"testing"

	"codex/api"
	"codex/block"
	"codex/journal"
	"codex/store"
)

const manyTurns = 300 // more than any Commit here has

// scene is transactions that are committed, and one whose power goes.
type scene struct {
	n     int
	ahead [][]call
	row   []call
}

// writes is many writes.
func writes(from, n int, name string) []call {
	var l []call
	for i := range n {
		l = append(l, write(from+i, named(fmt.Sprint(name, " ", i))))
	}
	return l
}

func scenes() []scene {
	small := []call{alloc(6), write(64, named("a")), write(65, named("b")), write(69, named("c"))}
	next := []call{write(65, named("d")), release(64, 1), alloc(3), write(71, named("e"))}
	many := append([]call{alloc(50)}, writes(64, 17, "first")...)
	return []scene{
		{128, nil, small},
		{128, [][]call{small}, next},
		{128, [][]call{small, {write(66, named("x"))}}, []call{write(66, named("y"))}},
		{128, [][]call{small, next}, []call{release(65, 1)}},
		// the log is full: a checkpoint comes first
		{128, [][]call{many, writes(70, 18, "second"), writes(80, 15, "third")}, writes(75, 5, "fourth")},
		{128, [][]call{append([]call{alloc(50)}, writes(64, 47, "full")...)}, append([]call{release(110, 1)}, writes(64, 10, "over")...)},
		// both blocks of the bitmap
		{2060, [][]call{{alloc(1990), write(2050, named("p"))}}, []call{release(2040, 12), write(65, named("q")), write(2053, named("r"))}},
	}
}

// build is a scene's store, with its last transaction open.
func (x scene) build(t *testing.T, most int) *pair {
	t.Helper()
	b := newPair(t, x.n, most)
	for _, l := range x.ahead {
		b.errs(t, begin(), api.OK)
		for _, c := range l {
			b.errs(t, c, api.OK)
		}
		b.errs(t, commit(), api.OK)
	}
	b.errs(t, begin(), api.OK)
	for _, c := range x.row {
		b.errs(t, c, api.OK)
	}
	return b
}

type crash struct {
	keep      []bool
	torn, cut int
}

// crashes is, of so many pending writes, none that is kept, all, each alone, all but each, and each torn.
func crashes(pending int) []crash {
	all := slices.Repeat([]bool{true}, pending)
	l := []crash{{nil, -1, 0}}
	if pending > 0 {
		l = append(l, crash{all, -1, 0})
	}
	for k := 0; k < pending; k += 1 + pending/6 {
		one, others := make([]bool, pending), slices.Clone(all)
		one[k], others[k] = true, false
		l = append(l, crash{one, -1, 0}, crash{others, -1, 0}, crash{others, k, 1 + 37*k%255}, crash{nil, k, 255}, crash{all[:k], k, 12})
	}
	return l
}

// wantOneOf asks that a store is like one of some, and tells which one.
func wantOneOf(t *testing.T, what string, s *store.Store, l ...*plain) *plain {
	t.Helper()
	fault := ""
	for _, p := range l {
		if fault = p.unlike(s); fault == "" {
			return p
		}
	}
	t.Fatalf("%s: the store is none of %d that it may be; it is not the last one, as %s", what, len(l), fault)
	return nil
}

// wantDead asks what a store tells behind a Commit whose power went.
func wantDead(t *testing.T, what string, b *pair) {
	t.Helper()
	wantErrno(t, what+": Begin", b.s.Begin(), api.ErrDead)
	wantErrno(t, what+": Commit", b.s.Commit(), api.ErrDead)
	if data, e := b.s.Read(b.p.first); data != "" || e != api.ErrDead {
		t.Fatalf("%s: Read: %.20q, %v", what, data, e)
	}
	b.s.Free()
	b.s.Used()
}

// goOn makes one more transaction, which must be OK.
func goOn(t *testing.T, b *pair) {
	t.Helper()
	b.alone = true
	b.errs(t, commit(), api.ErrState) // the one that erred is no longer open
	b.row(t, begin(), alloc(2))
	b.row(t, write(b.p.extents()[0].Start, named("goes on")), commit())
}

// S5, S6: of each turn of Commit, and each way to crash there: the store that goes on, and the one that is opened.
func TestCommitWhosePowerGoes(t *testing.T) {
	for n, x := range scenes() {
		t.Run(fmt.Sprint("scene ", n), func(t *testing.T) {
			t.Parallel()
			k := 0
			for ; k < manyTurns && commitWhosePowerGoes(t, x, k); k++ {
			}
			if k < 6 || k == manyTurns {
				t.Errorf("%d turns of Commit", k)
			}
		})
	}
}

// commitWhosePowerGoes tells whether the power went, with a fuse of k.
func commitWhosePowerGoes(t *testing.T, x scene, k int) bool {
	t.Helper()
	pending := -1
	for c := 0; pending < 0 || c < len(crashes(pending)); c++ {
		b := x.build(t, 64)
		after := b.p.copied()
		b.fuse(k)
		_, e, fault := b.do(commit())
		what := fmt.Sprint("fuse ", k, ", crash ", c)
		if fault != "" {
			t.Fatalf("%s: %s", what, fault)
		}
		if e == api.OK {
			b.like(t, what)
			return false
		}
		wantErrno(t, what, e, api.ErrDead)
		wantDevice(t, what, b.d, b.twin)
		wantDead(t, what, b)
		pending = len(b.d.Pending())
		way := crashes(pending)[c]
		b.d.Crash(way.keep, way.torn, way.cut)
		lies := b.d.Disk()
		wantStore(t, what+", the power is back", b.s, b.p)
		wantOneOf(t, what+", opened", open(t, deviceOf(t, lies), 65), b.p, after)
		if !slices.Equal(b.d.Disk(), lies) || len(b.d.Pending()) > 0 {
			t.Fatalf("%s: what was asked wrote to the device", what)
		}
		goOn(t, b)
		d := copyOf(t, b.d)
		wantStore(t, what+", gone on, opened", open(t, d, 64), b.p)
		b.d.Crash([]bool{c%2 == 0, c%3 == 0}, 1, 100)
		wantStore(t, what+", gone on, a crash, opened", open(t, b.d, 64), b.p)
	}
	return true
}

// A Commit that is OK is there, whatever is kept of what is pending behind it.
func TestCommitIsKept(t *testing.T) {
	for n, x := range scenes() {
		pending := -1
		for c := 0; pending < 0 || c < len(crashes(pending)); c++ {
			b := x.build(t, 64)
			b.row(t, commit())
			pending = len(b.d.Pending())
			way := crashes(pending)[c]
			b.d.Crash(way.keep, way.torn, way.cut)
			what := fmt.Sprint("scene ", n, ", crash ", c)
			wantStore(t, what, open(t, copyOf(t, b.d), 64), b.p)
			wantStore(t, what+", not opened", b.s, b.p)
			goOn(t, b)
			wantStore(t, what+", gone on", open(t, b.d, 64), b.p)
		}
	}
}

// The power goes a second time, in the next transaction of a store that goes on.
func TestPowerGoesTwice(t *testing.T) {
	for n, x := range scenes()[:6] {
		t.Run(fmt.Sprint("scene ", n), func(t *testing.T) {
			t.Parallel()
			for first := 0; first < manyTurns; first += 1 + n/4*4 { // where there are many turns a fifth of them
				second := 0
				for ; second < manyTurns && powerGoesTwice(t, x, first, second); second++ {
				}
				if second == 0 {
					return
				}
			}
			t.Error("so many turns of Commit")
		})
	}
}

// powerGoesTwice tells whether the power went twice, with these fuses.
func powerGoesTwice(t *testing.T, x scene, first, second int) bool {
	t.Helper()
	again := false
	for way := (first + second) % 3; way < 9; way += 3 {
		b := x.build(t, 64)
		one := b.p.copied()
		b.fuse(first)
		b.do(commit())
		if !b.d.Dead() {
			return false
		}
		b.d.Crash(slices.Repeat([]bool{way/3 > 0}, 60), 1, 128*(way/3))
		b.alone = true
		b.row(t, begin(), alloc(1))
		b.row(t, write(b.p.extents()[0].Start, named("second")))
		other := b.p.copied()
		b.d.Fuse(second)
		e := b.s.Commit()
		if e == api.OK {
			b.d.Fuse(-1)
			b.p.done()
			b.like(t, "it goes on")
			b.d.Crash(nil, -1, 0)
			wantStore(t, "opened", open(t, b.d, 64), b.p)
			continue
		}
		again = true
		b.p.undone()
		wantErrno(t, "the second Commit", e, api.ErrDead)
		b.d.Crash(slices.Repeat([]bool{way%3 > 0}, 60), 0, 90*(way%3))
		what := fmt.Sprint("fuses ", first, ", ", second, ", way ", way)
		wantStore(t, what, b.s, b.p)
		wantOneOf(t, what+", opened", open(t, copyOf(t, b.d), 64), b.p, one, other)
		goOn(t, b)
		b.d.Crash(nil, -1, 0)
		wantStore(t, what+", gone on, opened", open(t, b.d, 64), b.p)
	}
	return again
}

// How many blocks are kept is not seen, nor behind a crash: what was committed, and lost at home, is told.
func TestKeptIsNotSeenBehindACrash(t *testing.T) {
	for _, most := range []int{64, 65, 1024} {
		for _, reads := range []int{0, 10, 64, 400} {
			for _, x := range scenes()[1:4] {
				x.n = 600
				b := x.build(t, most)
				b.errs(t, commit(), api.OK)
				for i := range reads { // so other blocks are kept
					b.s.Read(600 - 1 - i)
				}
				b.errs(t, begin(), api.OK)
				b.errs(t, write(66, named("goes")), api.OK)
				for i := range reads {
					b.s.Read(600 - 1 - i)
				}
				b.fuse(1)
				b.errs(t, commit(), api.ErrDead)
				b.d.Crash(nil, -1, 0)
				wantStore(t, fmt.Sprint("most ", most, ", ", reads, " reads"), b.s, b.p)
				goOn(t, b)
				for i := range reads {
					b.s.Read(600 - 1 - i)
				}
				b.like(t, "gone on")
				b.d.Crash(nil, 0, 100)
				wantStore(t, "opened", open(t, b.d, most), b.p)
			}
		}
	}
}

// S1, S6: behind a crash within Format the device is a store, or none.
func TestFormatWhosePowerGoes(t *testing.T) {
	for _, n := range []int{128, 2049} {
		base, _ := formatted(t, n)
		for k := 0; k < 90; k++ {
			d := copyOf(t, base)
			d.Fuse(k)
			e := store.Format(d)
			d.Fuse(-1)
			if pending := len(d.Pending()); e != api.OK || k%2 > 0 {
				keep := make([]bool, pending)
				for i := range keep {
					keep[i] = (i+k)%3 > 0
				}
				d.Crash(keep, k%7, 40)
			}
			s, f := store.Open(d, 64)
			if e == api.OK && f != api.OK || f != api.OK && s != nil {
				t.Fatalf("Format with a fuse of %d: %v, then Open: %v, %v", k, e, s, f)
			}
			if f == api.OK {
				wantStore(t, fmt.Sprint("Format with a fuse of ", k), s, plainOf(n))
			}
		}
	}
}

// Open, again and again without power, changes nothing.
func TestOpenWhosePowerGoes(t *testing.T) {
	for n, x := range scenes() {
		b := x.build(t, 64)
		b.row(t, commit())
		for k := range 30 {
			b.d.Crash([]bool{k%2 > 0, k%3 > 0, true}, k%5, 77)
			b.d.Fuse(k % 15)
			if s, e := store.Open(b.d, 64); e == api.OK {
				b.d.Fuse(-1)
				wantStore(t, fmt.Sprint("scene ", n), s, b.p)
			} else if e != api.ErrDead || s != nil {
				t.Fatalf("Open: %v, %v", s, e)
			}
		}
		b.d.Crash(nil, -1, 0)
		wantStore(t, fmt.Sprint("scene ", n, ", at the end"), open(t, b.d, 64), b.p)
	}
}

// chosenCall is some call, of a store that is like p.
func chosenCall(r *rand.Rand, p *plain) call {
	some := func() int {
		if l := p.extents(); len(l) > 0 && r.Intn(8) > 0 {
			x := l[r.Intn(len(l))]
			return x.Start + r.Intn(x.Count)
		}
		return []int{p.first + r.Intn(p.n-p.first), p.first, p.n - 1, p.first - 1, p.n, -1, 0, math.MinInt, math.MaxInt, r.Intn(5000)}[r.Intn(10)]
	}
	count := func() int {
		if r.Intn(30) == 0 {
			return []int{0, -1, math.MinInt, math.MaxInt, p.n, p.free(), p.free() + 1}[r.Intn(7)]
		}
		return 1 + r.Intn(1+r.Intn(20))*(1+r.Intn(1+p.n/100))
	}
	switch k := r.Intn(100); {
	case k < 55:
		data := named(fmt.Sprint("data ", r.Intn(1e9)))
		if r.Intn(40) == 0 {
			data = strings.Repeat("x", []int{0, 1, 255, 257, 512}[r.Intn(5)])
		}
		return write(some(), data)
	case k < 75:
		return alloc(count())
	case k < 89:
		if i := some(); r.Intn(4) > 0 && p.isData(i) {
			n := 1
			for n < p.n/20 && p.isData(i+n) && p.used[i+n] && r.Intn(20) > 0 {
				n++
			}
			return release(i, n)
		}
		return release(some(), count())
	case k < 96:
		return commit()
	case k < 98:
		return abort()
	}
	return begin()
}

// step makes some call, and opens a transaction ahead of it, if none is open.
func (b *pair) step(t *testing.T, r *rand.Rand, x call) {
	t.Helper()
	if !b.p.open && r.Intn(4) > 0 {
		b.errs(t, begin(), api.OK)
	}
	if _, _, fault := b.do(x); fault != "" {
		t.Fatal(fault)
	}
	if b.s.Free() != b.p.free() || !slices.Equal(b.s.Used(), b.p.extents()) {
		t.Fatalf("behind %v: Free %d, Used %v; want %d, %v", x, b.s.Free(), b.s.Used(), b.p.free(), b.p.extents())
	}
	for range 4 {
		if fault := b.p.unlikeRead(b.s, b.p.first-1+r.Intn(b.p.n-b.p.first+2)); fault != "" {
			t.Fatalf("behind %v: %s", x, fault)
		}
	}
}

// S6: long rows of calls by chance; the same ones, whatever most is.
func TestLongRows(t *testing.T) {
	for seed, n := range []int{128, 150, 700, 2049, 2100, 4096} {
		t.Run(fmt.Sprint(n, " blocks"), func(t *testing.T) {
			t.Parallel()
			r := rand.New(rand.NewSource(int64(seed)))
			l := []*pair{newPair(t, n, 64), newPair(t, n, 65), newPair(t, n, 1024)}
			commits := 0
			for step := range 2500 {
				x := chosenCall(r, l[0].p)
				same := r.Int63()
				for _, b := range l {
					b.step(t, rand.New(rand.NewSource(same)), x)
				}
				if x.name == "Commit" || x.name == "Abort" {
					commits++
					wantDevice(t, "behind a row", l[0].d, l[0].twin)
					wantDevice(t, "most of 64, and of 65", l[0].d, l[1].d)
					wantDevice(t, "most of 64, and of 1024", l[0].d, l[2].d)
				}
				if step%250 == 0 {
					for _, b := range l {
						b.like(t, fmt.Sprint("step ", step))
					}
				}
			}
			l[0].p.undone()
			l[0].d.Crash(nil, -1, 0)
			wantStore(t, "at the end", open(t, l[0].d, 64), l[0].p)
			if commits < 100 {
				t.Errorf("%d commits: the test held too little", commits)
			}
		})
	}
}

// unsteady is a pair whose power goes now and then.
type unsteady struct {
	*pair
	r       *rand.Rand
	perhaps []*plain       // what the store may be as well, when it is opened
	seen    map[string]int // how often what was
}

// crash is a crash by chance.
func (u *unsteady) crash() {
	keep := make([]bool, len(u.d.Pending()))
	how := u.r.Intn(4)
	for k := range keep {
		keep[k] = how == 1 || how > 1 && u.r.Intn(how) > 0
	}
	u.d.Crash(keep, u.r.Intn(50)-1, u.r.Intn(300)-20)
}

// reopen opens the store, be it at several goes.
func (u *unsteady) reopen(t *testing.T) {
	t.Helper()
	u.p.undone()
	for u.r.Intn(3) == 0 {
		u.d.Fuse(u.r.Intn(12))
		s, e := store.Open(u.d, 64)
		if e != api.OK && (e != api.ErrDead || s != nil) {
			t.Fatalf("Open: %v, %v", s, e)
		}
		if e != api.OK {
			u.seen["a crash within Open"]++
		}
		u.crash()
	}
	u.twin, u.alone = copyOf(t, u.d), false
	u.open(t, []int{64, 65, 100, 1024}[u.r.Intn(4)])
	p := wantOneOf(t, "opened", u.s, append([]*plain{u.p}, u.perhaps...)...)
	if p != u.p {
		u.seen["the one that was going on"]++
	}
	u.p, u.perhaps = p, nil
	u.p.done()
}

// commitOrGo is a Commit whose power may go.
func (u *unsteady) commitOrGo(t *testing.T) {
	t.Helper()
	after, touched := u.p.copied(), len(u.p.touched) > 0
	if u.r.Intn(3) > 0 {
		u.errs(t, commit(), api.OK)
		if touched {
			u.perhaps = nil
		}
		return
	}
	k := u.r.Intn(len(u.p.touched)*2 + 6)
	u.fuse(k)
	want := api.Errno(-1) // not known
	if !u.alone {
		want = u.pair.commit()
	}
	e := u.s.Commit()
	if want != -1 && e != want || e != api.OK && e != api.ErrDead {
		t.Fatalf("Commit with a fuse of %d: %v; want %v", k, e, want)
	}
	if !u.alone {
		wantDevice(t, "Commit", u.d, u.twin)
	}
	if e == api.OK {
		u.fuse(-1)
		u.p.used, u.p.data = after.used, after.data
		u.p.done()
		if touched {
			u.perhaps = nil
		}
		u.seen["a Commit with a fuse"]++
		return
	}
	u.p.undone()
	u.perhaps = append(u.perhaps, after)
	u.seen["a Commit that erred"]++
	u.crash()
	u.afterCrash(t)
}

// afterCrash opens the store, or lets it go on.
func (u *unsteady) afterCrash(t *testing.T) {
	t.Helper()
	if u.r.Intn(2) == 0 {
		u.reopen(t)
		return
	}
	u.alone = true
	u.like(t, "it goes on")
	u.seen["a store that goes on"]++
}

// S6: crashes at any turn, and Open behind them, or the store going on.
func TestLongRowsWithCrashes(t *testing.T) {
	for seed := range 24 {
		t.Run(fmt.Sprint("seed ", seed), func(t *testing.T) {
			t.Parallel()
			n := []int{128, 140, 300, 2049, 2080, 4096}[seed%6]
			u := &unsteady{pair: newPair(t, n, 64), r: rand.New(rand.NewSource(int64(seed))), seen: map[string]int{}}
			for range 2000 {
				x := chosenCall(u.r, u.p)
				switch {
				case u.r.Intn(120) == 0: // no Commit is going on
					u.crash()
					u.seen["a crash by itself"]++
					u.afterCrash(t)
				case x.name == "Commit" && u.p.open:
					u.commitOrGo(t)
				default:
					u.step(t, u.r, x)
				}
			}
			u.d.Crash(nil, -1, 0)
			u.reopen(t)
			for _, what := range []string{"a Commit that erred", "a store that goes on", "a crash by itself"} {
				if u.seen[what] == 0 {
					t.Errorf("%v: the test held too little", u.seen)
				}
			}
		})
	}
}

// The journal alone, as S1 says it, makes a store.
func TestFormatByTheJournal(t *testing.T) {
	for _, n := range []int{128, 2048, 2049, 4096} {
		d, _ := block.New(n)
		wantErrno(t, "Format, by the journal", formatByJournal(d), api.OK)
		wantStore(t, fmt.Sprint("of ", n, " blocks"), open(t, d, 64), plainOf(n))
		j, e := journal.Open(d)
		if e != api.OK || j.Home() != 62 {
			t.Errorf("%v, %v", j, e)
		}
	}
}
