package chain

import (
	"math"
	"slices"
	"strings"
	"testing"

	"cellarer/api"
)

// ver is a version with one octet.
func ver(id uint64, at int) api.Version {
	return api.Version{ID: id, Data: "x", At: at}
}

// mark is a Mark.
func mark(id uint64, at int) api.Version {
	return api.Version{ID: id, Mark: true, At: at}
}

// fullChain is a chain of so many versions, all at one time, with IDs 10, 20, .., the latest first.
func fullChain(n int) []api.Version {
	var l []api.Version
	for i := range n {
		l = append(l, ver(uint64(10*(n-i)), 7))
	}
	return l
}

// withZero is a chain in which the version at a place has the ID 0.
func withZero(l []api.Version, at int) []api.Version {
	l = slices.Clone(l)
	l[at].ID = 0
	return l
}

// goodVersions may be; each edge is there.
func goodVersions() []api.Version {
	return []api.Version{
		{}, {At: 1}, {ID: 1}, {ID: 1, At: 1}, {ID: 2, At: 1, Data: "b"}, {ID: 3, Mark: true}, {Mark: true, At: 1}, {ID: 3, Mark: true, At: 2},
		{ID: 1<<48 - 1, At: 1}, {ID: 4, At: 1<<40 - 1}, {ID: 1<<48 - 1, At: 1<<40 - 1, Mark: true}, {ID: 2, Data: strings.Repeat("\x00", 2000)},
	}
}

// badVersions may not be, each for one reason.
func badVersions() []api.Version {
	return []api.Version{
		{ID: 1 << 48}, {ID: math.MaxUint64, At: 1}, {ID: 1, At: -1}, {At: math.MinInt}, {ID: 2, At: 1 << 40}, {ID: 2, At: math.MaxInt},
		{ID: 2, Data: strings.Repeat("d", 2001)}, {Data: strings.Repeat("d", 1<<20)}, {ID: 1, Mark: true, Data: "x"}, {Mark: true, Data: "\x00"}, {ID: 1, Mark: true, Data: strings.Repeat("d", 2001)},
	}
}

// mayBe: may a version be, as the document's words say it?
func mayBe(v api.Version) bool {
	return v.ID <= 281474976710655 && v.At >= 0 && v.At <= 1099511627775 && len(v.Data) <= 2000 && (!v.Mark || len(v.Data) == 0)
}

// chainMayBe: may a chain be? Each two versions are held against each other.
func chainMayBe(l []api.Version) bool {
	if len(l) > 20 {
		return false
	}
	for i, v := range l {
		if !mayBe(v) {
			return false
		}
		for _, older := range l[i+1:] {
			if older.At > v.At || older.ID == v.ID || older.ID != 0 && v.ID != 0 && older.ID > v.ID {
				return false
			}
		}
	}
	return true
}

// put is what Put answers, as the document's words say it.
func put(l []api.Version, state int, v api.Version) ([]api.Version, api.Errno) {
	if !chainMayBe(l) || state < 0 || state > 2 || !mayBe(v) || state == 1 && v.ID == 0 || len(l) > 0 && v.At < l[0].At {
		return nil, api.ErrArg
	}
	if state != 1 {
		v.ID = 0
	}
	laid := []api.Version{v}
	for _, there := range l {
		if state == 1 && there.ID >= v.ID {
			return nil, api.ErrOrder
		}
		if state == 1 || there.ID != 0 {
			laid = append(laid, there)
		}
	}
	if len(laid) > 20 {
		return nil, api.ErrLarge
	}
	return laid, api.OK
}

// drop is what Drop answers, likewise.
func drop(l []api.Version, id uint64) ([]api.Version, api.Errno) {
	if !chainMayBe(l) {
		return nil, api.ErrArg
	}
	var left []api.Version
	for _, v := range l {
		if v.ID != id {
			left = append(left, v)
		}
	}
	if len(left) == len(l) {
		return nil, api.ErrNone
	}
	return left, api.OK
}

// find is what Find answers, likewise.
func find(l []api.Version, id uint64) (api.Version, api.Errno) {
	if !chainMayBe(l) {
		return api.Version{}, api.ErrArg
	}
	for _, v := range l {
		if v.ID == id && v.Mark {
			return v, api.ErrMark
		}
		if v.ID == id {
			return v, api.OK
		}
	}
	return api.Version{}, api.ErrNone
}

// smallChains is all chains of at most three versions, of those that may be and of some that may not.
func smallChains() [][]api.Version {
	some := append(goodVersions()[:8], badVersions()[0], badVersions()[2], badVersions()[8])
	chains := [][]api.Version{nil, {}}
	last := [][]api.Version{nil}
	for range 3 {
		var next [][]api.Version
		for _, l := range last {
			for _, v := range some {
				next = append(next, append(slices.Clone(l), v))
			}
		}
		chains = append(chains, next...)
		last = next
	}
	return chains
}

// longChains are at and beyond the most versions, with and without one of ID 0.
func longChains() [][]api.Version {
	chains := [][]api.Version{fullChain(18), fullChain(19), fullChain(20), fullChain(21), fullChain(22), fullChain(100000)}
	for _, at := range []int{0, 1, 10, 18, 19} {
		chains = append(chains, withZero(fullChain(20), at), withZero(fullChain(21), at))
	}
	return chains
}

// sameChain: the same versions, and none beside an error.
func sameChain(got, want []api.Version, gotErr, wantErr api.Errno) bool {
	return gotErr == wantErr && slices.Equal(got, want)
}

// TestCheck: P5.1, small chains and long ones; a chain that may not be is ErrArg.
func TestCheck(t *testing.T) {
	for _, l := range append(smallChains(), longChains()...) {
		was, want := slices.Clone(l), api.OK
		if !chainMayBe(l) {
			want = api.ErrArg
		}
		if got := Check(l); got != want || !slices.Equal(l, was) {
			t.Errorf("Check(%.200v): %d, want %d", l, got, want)
		}
	}
}

// TestCheckVersions: P5.1, each part of a version at its edges, alone and among others.
func TestCheckVersions(t *testing.T) {
	for _, v := range goodVersions() {
		if got := Check([]api.Version{v}); got != api.OK {
			t.Errorf("Check of %.60v: %d", v, got)
		}
	}
	for _, v := range badVersions() {
		for _, l := range [][]api.Version{{v}, {v, {ID: 1}}, {{ID: 1<<48 - 1, At: 1<<40 - 1}, v}} {
			if got := Check(l); got != api.ErrArg {
				t.Errorf("Check of %.60v among %d: %d", v, len(l), got)
			}
		}
	}
}

// TestCheckOrder: P5.1, IDs that are not 0 fall, 0 stands anywhere, once, and At does not rise.
func TestCheckOrder(t *testing.T) {
	for _, l := range [][]api.Version{
		{}, nil, {ver(0, 0)}, {ver(3, 0), ver(2, 0), ver(1, 0)}, {ver(0, 0), ver(2, 0), ver(1, 0)}, {ver(2, 0), ver(0, 0), ver(1, 0)}, {ver(2, 0), ver(1, 0), ver(0, 0)},
		{ver(3, 2), ver(2, 2), ver(1, 1)}, {mark(3, 1), mark(2, 1), mark(0, 0)}, {ver(1<<48-1, 1<<40-1), ver(1<<48-2, 1<<40-1), ver(1, 0)}, {ver(9, 5), ver(0, 5), ver(1, 5)},
	} {
		if got := Check(l); got != api.OK {
			t.Errorf("Check(%v): %d", l, got)
		}
	}
	for _, l := range [][]api.Version{
		{ver(1, 0), ver(2, 0)}, {ver(1, 0), ver(1, 0)}, {ver(3, 0), ver(1, 0), ver(2, 0)}, {ver(2, 0), ver(0, 0), ver(2, 0)}, {ver(1, 0), ver(0, 0), ver(2, 0)}, {ver(0, 0), ver(0, 0)}, {ver(0, 0), ver(3, 0), ver(0, 0)},
		{ver(2, 0), ver(1, 1)}, {ver(0, 0), ver(1, 1)}, {ver(3, 3), ver(2, 1), ver(1, 2)}, {ver(2, 1<<40-2), ver(1, 1<<40-1)}, {mark(1, 0), mark(2, 0)}, {mark(0, 1), ver(0, 0)}, {ver(2, 3), ver(0, 4)},
	} {
		if got := Check(l); got != api.ErrArg {
			t.Errorf("Check(%v): %d", l, got)
		}
	}
}

// TestPut: P5.2, each version laid at each chain by each state, as the document's words say it.
func TestPut(t *testing.T) {
	versions := slices.Concat(goodVersions(), badVersions(), []api.Version{ver(5, 3), ver(199, 7), ver(200, 7), ver(201, 7), ver(0, 7), ver(0, 6), ver(201, 6), mark(201, 8)})
	for _, l := range append(smallChains(), longChains()...) {
		was := slices.Clone(l)
		for _, v := range versions {
			for _, state := range []int{math.MinInt, -1, api.Off, api.On, api.Held, 3, math.MaxInt} {
				want, wantErr := put(l, state, v)
				if got, e := Put(l, state, v); !sameChain(got, want, e, wantErr) {
					t.Fatalf("Put(%.200v, %d, %.60v): %.200v, %d, want %.200v, %d", l, state, v, got, e, want, wantErr)
				}
			}
		}
		if !slices.Equal(l, was) {
			t.Fatalf("Put: %.200v is %.200v now", was, l)
		}
	}
}

// TestPutRefused: P5.2, each reason alone, and the one that is named first where there are several.
func TestPutRefused(t *testing.T) {
	l, full := []api.Version{ver(6, 5), ver(0, 5), ver(4, 4)}, fullChain(20)
	for i, c := range []struct {
		l     []api.Version
		state int
		v     api.Version
		want  api.Errno
	}{
		{l, 3, ver(7, 5), api.ErrArg}, {l, -1, ver(7, 5), api.ErrArg}, {l, api.On, ver(0, 5), api.ErrArg}, {l, api.On, ver(7, 4), api.ErrArg}, {l, api.Off, ver(0, 4), api.ErrArg}, {l, api.Held, ver(0, 4), api.ErrArg},
		{l, api.On, ver(1<<48, 5), api.ErrArg}, {l, api.Off, ver(1<<48, 5), api.ErrArg}, {l, api.Held, ver(1<<48, 5), api.ErrArg}, {l, api.Off, api.Version{Mark: true, Data: "x", At: 5}, api.ErrArg},
		{[]api.Version{ver(0, 5)}, api.Off, ver(0, 4), api.ErrArg}, {[]api.Version{ver(1, 0), ver(2, 0)}, api.On, ver(7, 5), api.ErrArg}, {[]api.Version{ver(0, 0), ver(0, 0)}, api.Off, ver(0, 5), api.ErrArg},
		{l, api.On, ver(6, 5), api.ErrOrder}, {l, api.On, ver(5, 5), api.ErrOrder}, {l, api.On, ver(4, 9), api.ErrOrder}, {l, api.On, ver(1, 5), api.ErrOrder}, {[]api.Version{ver(0, 1), ver(9, 1)}, api.On, ver(9, 1), api.ErrOrder}, {[]api.Version{ver(0, 1), ver(9, 1)}, api.On, ver(8, 1), api.ErrOrder},
		{full, api.On, ver(201, 7), api.ErrLarge}, {full, api.Off, ver(0, 7), api.ErrLarge}, {full, api.Held, mark(0, 8), api.ErrLarge}, {withZero(full, 3), api.On, ver(201, 7), api.ErrLarge},
		{l, api.On, ver(5, 4), api.ErrArg}, {full, api.On, ver(200, 7), api.ErrOrder}, {full, api.On, ver(1, 6), api.ErrArg}, {full, api.Held, ver(0, 6), api.ErrArg}, {fullChain(21), api.On, ver(1, 7), api.ErrArg},
		{l, api.On, ver(7, 5), api.OK}, {l, api.On, ver(1<<48-1, 1<<40-1), api.OK}, {l, api.Off, ver(1<<48-1, 5), api.OK}, {withZero(full, 19), api.Off, ver(0, 7), api.OK}, {withZero(full, 0), api.Held, ver(0, 7), api.OK}, {fullChain(19), api.On, ver(191, 7), api.OK}, {fullChain(19), api.Held, ver(0, 7), api.OK},
	} {
		got, e := Put(c.l, c.state, c.v)
		if e != c.want || e != api.OK && len(got) != 0 {
			t.Errorf("Put %d: %v, %d, want %d", i, got, e, c.want)
		}
	}
}

// TestDelete: P5.2, with Off the one of ID 0 is gone; else a Mark is put, with Held of ID 0.
func TestDelete(t *testing.T) {
	for _, l := range append(smallChains(), longChains()...) {
		was := slices.Clone(l)
		for _, state := range []int{math.MinInt, -1, api.Off, api.On, api.Held, 3, math.MaxInt} {
			for _, id := range []uint64{0, 1, 2, 3, 4, 9, 200, 201, 1<<48 - 1, 1 << 48, math.MaxUint64} {
				for _, at := range []int{math.MinInt, -1, 0, 1, 2, 6, 7, 8, 1<<40 - 1, 1 << 40, math.MaxInt} {
					want, wantErr := drop(l, 0)
					if state == api.Held {
						want, wantErr = put(l, state, mark(0, at))
					} else if state != api.Off {
						want, wantErr = put(l, state, mark(id, at))
					}
					if got, e := Delete(l, state, id, at); !sameChain(got, want, e, wantErr) {
						t.Fatalf("Delete(%.200v, %d, %d, %d): %.200v, %d, want %.200v, %d", l, state, id, at, got, e, want, wantErr)
					}
				}
			}
		}
		if !slices.Equal(l, was) {
			t.Fatalf("Delete: %.200v is %.200v now", was, l)
		}
	}
}

// TestDropAndFind: P5.3, each ID of each chain: gone, or told, a Mark with ErrMark; ErrNone and nothing of what is not there.
func TestDropAndFind(t *testing.T) {
	for _, l := range append(smallChains(), longChains()...) {
		was := slices.Clone(l)
		for _, id := range []uint64{0, 1, 2, 3, 4, 10, 15, 100, 190, 200, 201, 1<<48 - 1, 1 << 48, math.MaxUint64} {
			want, wantErr := drop(l, id)
			if got, e := Drop(l, id); !sameChain(got, want, e, wantErr) {
				t.Fatalf("Drop(%.200v, %d): %.200v, %d, want %.200v, %d", l, id, got, e, want, wantErr)
			}
			wantOne, wantErr := find(l, id)
			if got, e := Find(l, id); got != wantOne || e != wantErr {
				t.Fatalf("Find(%.200v, %d): %.60v, %d, want %.60v, %d", l, id, got, e, wantOne, wantErr)
			}
		}
		if !slices.Equal(l, was) {
			t.Fatalf("Drop: %.200v is %.200v now", was, l)
		}
	}
}

// TestGet: P5.3, the first one, a Mark with ErrMark; ErrNone of an empty chain.
func TestGet(t *testing.T) {
	for _, l := range append(smallChains(), longChains()...) {
		want, wantErr := api.Version{}, api.ErrArg
		if chainMayBe(l) {
			wantErr = api.ErrNone
		}
		if chainMayBe(l) && len(l) > 0 {
			want, wantErr = find(l, l[0].ID)
		}
		if got, e := Get(l); got != want || e != wantErr {
			t.Errorf("Get(%.200v): %.60v, %d, want %.60v, %d", l, got, e, want, wantErr)
		}
	}
	l := []api.Version{mark(5, 9), ver(0, 8)}
	if got, e := Get(l); got != mark(5, 9) || e != api.ErrMark {
		t.Errorf("Get of a Mark: %v, %d", got, e)
	}
	if got, e := Find(l, 5); got != mark(5, 9) || e != api.ErrMark {
		t.Errorf("Find of a Mark: %v, %d", got, e)
	}
	if got, e := Find(l, 0); got != ver(0, 8) || e != api.OK {
		t.Errorf("Find of what a Mark is ahead of: %v, %d", got, e)
	}
}

// TestNewMemory: P5.2, P5.3, what is answered shares nothing with what was handed in, even where there is room behind it.
func TestNewMemory(t *testing.T) {
	for _, n := range []int{1, 2, 5} {
		l := slices.Grow(withZero(fullChain(n), n/2), 10)
		was := slices.Clone(l)
		behind := slices.Clone(l[:cap(l)])
		for i, call := range []func() ([]api.Version, api.Errno){
			func() ([]api.Version, api.Errno) { return Put(l, api.On, ver(999, 8)) },
			func() ([]api.Version, api.Errno) { return Put(l, api.Off, ver(0, 8)) },
			func() ([]api.Version, api.Errno) { return Put(l, api.Held, ver(0, 8)) },
			func() ([]api.Version, api.Errno) { return Delete(l, api.On, 999, 8) },
			func() ([]api.Version, api.Errno) { return Delete(l, api.Off, 0, 0) },
			func() ([]api.Version, api.Errno) { return Delete(l, api.Held, 0, 8) },
			func() ([]api.Version, api.Errno) { return Drop(l, 0) },
			func() ([]api.Version, api.Errno) { return Drop(l, l[0].ID) },
			func() ([]api.Version, api.Errno) { return Drop(l, l[n-1].ID) },
		} {
			got, e := call()
			if e != api.OK {
				t.Fatalf("call %d: %d", i, e)
			}
			got = got[:cap(got)]
			for at := range got {
				got[at] = ver(1, 1)
			}
			if !slices.Equal(l, was) || !slices.Equal(l[:cap(l)], behind) {
				t.Fatalf("call %d: %v is %v now", i, was, l[:cap(l)])
			}
		}
	}
}

// TestLaidIsFound: P5.4, along many steps: with On nothing is lost, what was put is got and found, and the chain may be.
func TestLaidIsFound(t *testing.T) {
	var l []api.Version
	chance := uint32(1)
	for step := range 20000 {
		chance = chance*1664525 + 1013904223
		state, pick := int(chance>>30), chance>>16%1000
		was := slices.Clone(l)
		v := api.Version{ID: uint64(step + 1), Data: strings.Repeat("d", int(pick)), At: step / 3}
		next, e := Put(l, state, v)
		if pick < 300 {
			v = mark(v.ID, v.At)
			next, e = Delete(l, state, v.ID, v.At)
		} else if pick < 600 && len(l) > 0 {
			next, e = Drop(l, l[int(pick)%len(l)].ID)
			v.ID = math.MaxUint64
		}
		if e != api.OK {
			continue
		}
		l = next
		if Check(l) != api.OK || len(l) > api.MaxVersions {
			t.Fatalf("step %d: a chain that may not be: %v", step, l)
		}
		if v.ID == math.MaxUint64 || v.Mark && state == api.Off {
			continue
		}
		if state != api.On {
			v.ID = 0
		}
		wantErr := api.OK
		if v.Mark {
			wantErr = api.ErrMark
		}
		if got, e := Get(l); got != v || e != wantErr {
			t.Fatalf("step %d: Get: %.60v, %d, want %.60v", step, got, e, v)
		}
		if got, e := Find(l, v.ID); got != v || e != wantErr {
			t.Fatalf("step %d: Find: %.60v, %d, want %.60v", step, got, e, v)
		}
		if state == api.On && !slices.Equal(l[1:], was) {
			t.Fatalf("step %d: something was lost", step)
		}
		for _, old := range was {
			if got, _ := Find(l, old.ID); old.ID != 0 && got != old {
				t.Fatalf("step %d: %d is %.60v now", step, old.ID, got)
			}
		}
	}
}

// TestExamples: the chapter's examples.
func TestExamples(t *testing.T) {
	one, _ := Put(nil, api.On, api.Version{ID: 1, Data: "a"})
	two, e := Put(one, api.On, api.Version{ID: 2, Data: "b"})
	if len(two) != 2 || e != api.OK {
		t.Errorf("Put of 1, 2 with On: %v, %d", two, e)
	}
	off, _ := Put(nil, api.Off, api.Version{ID: 1, Data: "a"})
	off, e = Put(off, api.Off, api.Version{ID: 2, Data: "b"})
	if !slices.Equal(off, []api.Version{{Data: "b"}}) || e != api.OK {
		t.Errorf("Put twice with Off: %v, %d", off, e)
	}
	gone, e := Delete(two, api.On, 3, 1)
	if got, getErr := Get(gone); got != mark(3, 1) || e != api.OK || getErr != api.ErrMark {
		t.Errorf("Get behind Delete with On: %v, %d, %d", got, e, getErr)
	}
	back, e := Drop(gone, 3)
	if got, getErr := Get(back); got != two[0] || e != api.OK || getErr != api.OK {
		t.Errorf("Get behind Drop of the Mark: %v, %d, %d", got, e, getErr)
	}
}
