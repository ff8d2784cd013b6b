package parts

import (
	"fmt"
	"hash/crc32"
	"math"
	"slices"
	"strings"
	"testing"

	"cellarer/api"
)

// brief is the beginning of how a value is told.
func brief(x any) string { return fmt.Sprintf("%.200s", fmt.Sprint(x)) }

// longKey is a key of 60 octets.
func longKey() string { return strings.Repeat("k", 60) }

// goodKeys are keys; each edge is there.
func goodKeys() []string {
	return []string{" ", "~", "a", "k/v", "A", longKey(), strings.Repeat("~", 60)}
}

// badKeys are none.
func badKeys() []string {
	return []string{"", "\x1f", "\x7f", "\x00", "\n", "\xff", "a\x1f", "\x7fa", "\u00e9", longKey() + "k", strings.Repeat("k", 100000)}
}

// goodIDs are an upload's, in order; each edge is there.
func goodIDs() []uint64 {
	return []uint64{1, 2, 3, 1 << 16, 1 << 32, 1<<32 + 1, 1<<48 - 2, 1<<48 - 1}
}

// badIDs are none's.
func badIDs() []uint64 {
	return []uint64{0, 1 << 48, 1<<48 + 1, 1 << 63, math.MaxUint64}
}

// goodParts may be; each edge is there.
func goodParts() []api.Part {
	return []api.Part{
		{N: 1}, {N: 2}, {N: 999}, {N: 1000}, {N: 1, Data: "\x00"}, {N: 1000, Data: "last"}, {N: 7, Data: strings.Repeat("\xff", 1999)}, {N: 1, Data: strings.Repeat("d", 2000)}, {N: 1000, Data: strings.Repeat("d", 2000)},
	}
}

// badParts may not be, each for one reason.
func badParts() []api.Part {
	return []api.Part{
		{N: 0}, {}, {N: 0, Data: "first"}, {N: -1}, {N: math.MinInt}, {N: 1001}, {N: 1<<32 + 1}, {N: math.MaxInt},
		{N: 1, Data: strings.Repeat("d", 2001)}, {N: 1000, Data: strings.Repeat("d", 2001)}, {N: 7, Data: strings.Repeat("d", 1<<20)},
	}
}

// manyParts is so many parts, numbered 1, 3, 5, .., with a few octets each.
func manyParts(n int) []api.Part {
	var l []api.Part
	for i := range n {
		l = append(l, api.Part{N: 2*i + 1, Data: strings.Repeat("p", i%7)})
	}
	return l
}

// up is an upload.
func up(id uint64, l ...api.Part) api.Upload {
	return api.Upload{ID: id, Key: "k/v", L: l}
}

// manyUploads is so many uploads, with the IDs 10, 20, .., and a part or two each.
func manyUploads(n int) []api.Upload {
	var l []api.Upload
	for i := range n {
		l = append(l, up(uint64(10*i+10), manyParts(i%3)...))
	}
	return l
}

// goodUploads may be, each as the only one.
func goodUploads() []api.Upload {
	l := []api.Upload{up(1), {ID: 1, Key: "a", L: []api.Part{}}, up(1, manyParts(29)...), up(1, manyParts(30)...), up(1, api.Part{N: 1}, api.Part{N: 2}, api.Part{N: 1000})}
	for _, id := range goodIDs() {
		l = append(l, up(id, api.Part{N: 1, Data: "x"}))
	}
	for _, key := range goodKeys() {
		l = append(l, api.Upload{ID: 3, Key: key})
	}
	for _, p := range goodParts() {
		l = append(l, up(1, p))
	}
	return l
}

// badUploads may not be, each for one reason.
func badUploads() []api.Upload {
	l := []api.Upload{
		up(1, manyParts(31)...), up(1, manyParts(500)...), up(1, make([]api.Part, 100000)...),
		up(1, api.Part{N: 2}, api.Part{N: 1}), up(1, api.Part{N: 2}, api.Part{N: 2}), up(1, api.Part{N: 1}, api.Part{N: 3}, api.Part{N: 2}), up(1, api.Part{N: 1}, api.Part{N: 3}, api.Part{N: 3}), up(1, api.Part{N: 1000}, api.Part{N: 1}),
		up(1, api.Part{N: 5, Data: "same"}, api.Part{N: 6}, api.Part{N: 5, Data: "same"}),
	}
	for _, id := range badIDs() {
		l = append(l, up(id))
	}
	for _, key := range badKeys() {
		l = append(l, api.Upload{ID: 3, Key: key})
	}
	for _, p := range badParts() {
		l = append(l, up(1, p))
		if p.N > 1 {
			l = append(l, up(1, api.Part{N: 1}, p))
		}
	}
	return l
}

// badLists may not be, each for one reason.
func badLists() [][]api.Upload {
	l := [][]api.Upload{
		manyUploads(11), manyUploads(12), manyUploads(1000), make([]api.Upload, 100000),
		{up(2), up(1)}, {up(2), up(2)}, {up(1), up(3), up(2)}, {up(1), up(3), up(3)}, {up(1<<48 - 1), up(1)}, {up(5), up(6), up(5)},
	}
	for _, u := range badUploads() {
		l = append(l, []api.Upload{u})
		if 0 < u.ID && u.ID < math.MaxUint64 {
			u.ID += 10
			l = append(l, []api.Upload{up(2), up(3), u}, []api.Upload{u, up(u.ID + 1)})
		}
	}
	return l
}

// some are uploads of which small lists are made, some of which may not be.
func some() []api.Upload {
	return []api.Upload{
		up(1), up(2, api.Part{N: 1, Data: "world"}, api.Part{N: 2, Data: "hello"}), up(2), up(3, api.Part{N: 9, Data: "x"}), {ID: 4, Key: "a"}, up(1<<48 - 1), up(0), up(5, api.Part{N: 2}, api.Part{N: 1}), {ID: 6},
	}
}

// smallLists is all lists of at most three of these uploads.
func smallLists() [][]api.Upload {
	all := [][]api.Upload{nil, {}}
	last := [][]api.Upload{nil}
	for range 3 {
		var next [][]api.Upload
		for _, l := range last {
			for _, u := range some() {
				next = append(next, append(slices.Clone(l), u))
			}
		}
		all = append(all, next...)
		last = next
	}
	return all
}

// lists is those that may be, and those that may not, small and long.
func lists() [][]api.Upload {
	all := append(smallLists(), badLists()...)
	for _, u := range goodUploads() {
		all = append(all, []api.Upload{u})
	}
	return append(all, manyUploads(8), manyUploads(9), manyUploads(10), []api.Upload{up(7, manyParts(29)...), up(8, manyParts(30)...)})
}

// partMayBe: may a part be, as the document's words say it?
func partMayBe(p api.Part) bool {
	return p.N >= 1 && p.N <= 1000 && len(p.Data) <= 2000
}

// headMayBe: may an upload have this ID and this key?
func headMayBe(id uint64, key string) bool {
	for i := range len(key) {
		if key[i] < 32 || key[i] > 126 {
			return false
		}
	}
	return id >= 1 && id <= 281474976710655 && len(key) >= 1 && len(key) <= 60
}

// uploadMayBe: may an upload be? Each two parts are held against each other.
func uploadMayBe(u api.Upload) bool {
	if !headMayBe(u.ID, u.Key) || len(u.L) > 30 {
		return false
	}
	for i, p := range u.L {
		if !partMayBe(p) || slices.ContainsFunc(u.L[i+1:], func(q api.Part) bool { return q.N <= p.N }) {
			return false
		}
	}
	return true
}

// listMayBe: may uploads be? Each two are held against each other.
func listMayBe(l []api.Upload) bool {
	if len(l) > 10 {
		return false
	}
	for i, u := range l {
		if !uploadMayBe(u) || slices.ContainsFunc(l[i+1:], func(v api.Upload) bool { return v.ID <= u.ID }) {
			return false
		}
	}
	return true
}

// tagOf is octets' tag, as the library has it.
func tagOf(s string) uint32 {
	return crc32.Checksum([]byte(s), crc32.MakeTable(crc32.Castagnoli))
}

// manyOf is the tag of octets' tags.
func manyOf(l ...string) string {
	octets := ""
	for _, s := range l {
		t := tagOf(s)
		octets += string([]byte{byte(t >> 24), byte(t >> 16), byte(t >> 8), byte(t)})
	}
	return fmt.Sprintf("%08x-%d", tagOf(octets), len(l))
}

// piece names a part by its octets.
func piece(n int, data string) api.Piece {
	return api.Piece{N: n, Tag: tagOf(data)}
}

// pieces names so many parts, all of them.
func pieces(l []api.Part) []api.Piece {
	var all []api.Piece
	for _, p := range l {
		all = append(all, piece(p.N, p.Data))
	}
	return all
}

// begin is what Begin answers, as the document's words say it.
func begin(l []api.Upload, id uint64, key string) ([]api.Upload, api.Errno) {
	if !listMayBe(l) || !headMayBe(id, key) {
		return nil, api.ErrArg
	}
	for _, u := range l {
		if u.ID >= id {
			return nil, api.ErrOrder
		}
	}
	if len(l) >= 10 {
		return nil, api.ErrLarge
	}
	return append(deep(l), api.Upload{ID: id, Key: key}), api.OK
}

// find is what Find answers.
func find(l []api.Upload, id uint64) (api.Upload, api.Errno) {
	if !listMayBe(l) {
		return api.Upload{}, api.ErrArg
	}
	for _, u := range l {
		if u.ID == id {
			return u, api.OK
		}
	}
	return api.Upload{}, api.ErrNone
}

// abort is what Abort answers.
func abort(l []api.Upload, id uint64) ([]api.Upload, api.Errno) {
	if _, e := find(l, id); e != api.OK {
		return nil, e
	}
	var left []api.Upload
	for _, u := range l {
		if u.ID != id {
			left = append(left, u)
		}
	}
	return left, api.OK
}

// lay is what Lay answers: the part is laid behind all others, and they are sorted.
func lay(l []api.Upload, id uint64, p api.Part) ([]api.Upload, uint32, api.Errno) {
	if !listMayBe(l) || !partMayBe(p) {
		return nil, 0, api.ErrArg
	}
	if _, e := find(l, id); e != api.OK {
		return nil, 0, e
	}
	all := deep(l)
	for i, u := range all {
		if u.ID != id {
			continue
		}
		laid := append(slices.DeleteFunc(u.L, func(q api.Part) bool { return q.N == p.N }), p)
		slices.SortFunc(laid, func(x, y api.Part) int { return x.N - y.N })
		if len(laid) > 30 {
			return nil, 0, api.ErrLarge
		}
		all[i].L = laid
	}
	return all, tagOf(p.Data), api.OK
}

// whole is what Whole answers; each error is looked for over all pieces.
func whole(u api.Upload, l []api.Piece) (string, string, api.Errno) {
	if !uploadMayBe(u) || len(l) == 0 {
		return "", "", api.ErrArg
	}
	there := map[int]string{}
	for _, p := range u.L {
		there[p.N] = p.Data
	}
	var order, none, short bool
	var all []string
	for i, x := range l {
		s, ok := there[x.N]
		order = order || i > 0 && l[i-1].N >= x.N
		none = none || !ok || tagOf(s) != x.Tag
		short = short || i < len(l)-1 && len(s) < 5
		all = append(all, s)
	}
	octets := strings.Join(all, "")
	switch {
	case order:
		return "", "", api.ErrOrder
	case none:
		return "", "", api.ErrNone
	case short:
		return "", "", api.ErrShort
	case len(octets) > 2000:
		return "", "", api.ErrLarge
	}
	return octets, manyOf(all...), api.OK
}

// deep is the same uploads in memory of their own.
func deep(l []api.Upload) []api.Upload {
	var own []api.Upload
	for _, u := range l {
		own = append(own, api.Upload{ID: u.ID, Key: u.Key, L: slices.Clone(u.L)})
	}
	return own
}

// sameUpload: the same uploads, a nil list as one without elements?
func sameUpload(x, y api.Upload) bool {
	return x.ID == y.ID && x.Key == y.Key && slices.Equal(x.L, y.L)
}

// same: the same uploads, one by one?
func same(a, b []api.Upload) bool { return slices.EqualFunc(a, b, sameUpload) }

// TestCheck: P8.1, small lists, and the edges.
func TestCheck(t *testing.T) {
	for _, l := range lists() {
		want := api.ErrArg
		if listMayBe(l) {
			want = api.OK
		}
		if got := Check(l); got != want {
			t.Errorf("Check(%s): %d, want %d", brief(l), got, want)
		}
	}
	for _, u := range goodUploads() {
		if got := Check([]api.Upload{u}); got != api.OK {
			t.Errorf("Check(%s): %d", brief(u), got)
		}
	}
	for i, l := range badLists() {
		if got := Check(l); got != api.ErrArg {
			t.Errorf("Check of bad list %d, %s: %d", i, brief(l), got)
		}
	}
	for n := range 11 {
		if got := Check(manyUploads(n)); got != api.OK {
			t.Errorf("Check of %d uploads: %d", n, got)
		}
	}
}

// TestBadListsAreRefused: P8.1, of uploads that may not be, ahead of all other errors, and with nothing beside it.
func TestBadListsAreRefused(t *testing.T) {
	for i, l := range badLists() {
		for _, id := range []uint64{0, 1, 2, 10, 11, 12, 13, 1 << 40, 1<<48 - 1, math.MaxUint64} {
			if got, e := Begin(l, id, "a"); len(got) != 0 || e != api.ErrArg {
				t.Errorf("Begin %d, %d: %s, %d", i, id, brief(got), e)
			}
			if got, e := Find(l, id); !sameUpload(got, api.Upload{}) || e != api.ErrArg {
				t.Errorf("Find %d, %d: %s, %d", i, id, brief(got), e)
			}
			if got, e := Abort(l, id); len(got) != 0 || e != api.ErrArg {
				t.Errorf("Abort %d, %d: %s, %d", i, id, brief(got), e)
			}
			if got, n, e := Lay(l, id, api.Part{N: 1, Data: "first"}); len(got) != 0 || n != 0 || e != api.ErrArg {
				t.Errorf("Lay %d, %d: %s, %d, %d", i, id, brief(got), n, e)
			}
		}
	}
}

// TestOctets: P8.1, of all uploads, also of those that may not be.
func TestOctets(t *testing.T) {
	for _, l := range lists() {
		want := 0
		for _, u := range l {
			for _, p := range u.L {
				want += len(p.Data)
			}
		}
		if got := Octets(l); got != want {
			t.Errorf("Octets(%s): %d, want %d", brief(l), got, want)
		}
	}
	for i, c := range []struct {
		l    []api.Upload
		want int
	}{
		{nil, 0}, {[]api.Upload{}, 0}, {[]api.Upload{up(1)}, 0}, {[]api.Upload{up(1, api.Part{N: 1})}, 0},
		{[]api.Upload{up(1, api.Part{N: 1, Data: "ab"}, api.Part{N: 2, Data: "\x00\xff\n"}), up(2), up(3, api.Part{N: 1, Data: "ab"})}, 7},
		{[]api.Upload{up(2, api.Part{N: -4, Data: "ab"}, api.Part{N: -4, Data: "c"}), {L: []api.Part{{Data: "d"}}}}, 4},
		{[]api.Upload{up(1, api.Part{N: 1, Data: strings.Repeat("\u00e9", 1000)}, api.Part{N: 2, Data: strings.Repeat("d", 1<<20)})}, 2000 + 1<<20},
	} {
		if got := Octets(c.l); got != c.want {
			t.Errorf("Octets %d: %d, want %d", i, got, c.want)
		}
	}
}

// TestSame: P8.1, each part of one counts.
func TestSame(t *testing.T) {
	all := lists()
	for i, a := range all {
		if !Same(a, deep(a)) {
			t.Errorf("not the same as itself: %s", brief(a))
		}
		for _, b := range [][]api.Upload{all[0], all[1], all[i*7%len(all)], all[(i+1)%len(all)], all[len(all)-1-i]} {
			if got := Same(a, b); got != same(a, b) || Same(b, a) != got {
				t.Errorf("Same(%s, %s): %v", brief(a), brief(b), got)
			}
		}
	}
	l := []api.Upload{up(1, api.Part{N: 1, Data: "a"}, api.Part{N: 2, Data: "b"}), up(2)}
	changes := []func(l []api.Upload) []api.Upload{
		func(l []api.Upload) []api.Upload { l[0].ID = 9; return l },
		func(l []api.Upload) []api.Upload { l[1].ID = 9; return l },
		func(l []api.Upload) []api.Upload { l[0].Key = "k"; return l },
		func(l []api.Upload) []api.Upload { l[1].Key = "K/v"; return l },
		func(l []api.Upload) []api.Upload { l[0].L[0].N = 9; return l },
		func(l []api.Upload) []api.Upload { l[0].L[1].N = 9; return l },
		func(l []api.Upload) []api.Upload { l[0].L[0].Data = "b"; return l },
		func(l []api.Upload) []api.Upload { l[0].L[1].Data = ""; return l },
		func(l []api.Upload) []api.Upload { l[0].L = l[0].L[:1]; return l },
		func(l []api.Upload) []api.Upload { l[0].L = nil; return l },
		func(l []api.Upload) []api.Upload { l[0].L[0], l[0].L[1] = l[0].L[1], l[0].L[0]; return l },
		func(l []api.Upload) []api.Upload { l[1].L = []api.Part{{}}; return l },
		func(l []api.Upload) []api.Upload { l[0], l[1] = l[1], l[0]; return l },
		func(l []api.Upload) []api.Upload { return l[:1] },
		func(l []api.Upload) []api.Upload { return l[1:] },
		func(l []api.Upload) []api.Upload { return nil },
		func(l []api.Upload) []api.Upload { return append(l, up(3)) },
		func(l []api.Upload) []api.Upload { return append(l, api.Upload{}) },
	}
	for i, change := range changes {
		other := change(deep(l))
		if Same(l, other) || Same(other, l) {
			t.Errorf("Same %d: %v, %v", i, l, other)
		}
	}
	if !Same(nil, []api.Upload{}) || !Same([]api.Upload{up(1)}, []api.Upload{{ID: 1, Key: "k/v", L: []api.Part{}}}) {
		t.Error("a nil list isn't one without elements")
	}
}

// TestBegin: P8.2, at all lists, each ID and key; what is handed in stays.
func TestBegin(t *testing.T) {
	ids := append(append(goodIDs(), badIDs()...), 9, 10, 11, 79, 80, 81, 99, 100, 101)
	for _, l := range lists() {
		was := deep(l)
		for i, id := range ids {
			for _, key := range []string{"a", goodKeys()[i%len(goodKeys())], badKeys()[i%len(badKeys())]} {
				want, wantErr := begin(l, id, key)
				if got, e := Begin(l, id, key); !same(got, want) || e != wantErr {
					t.Fatalf("Begin(%s, %d, %.80q): %s, %d, want %s, %d", brief(l), id, key, brief(got), e, brief(want), wantErr)
				}
			}
		}
		if !same(l, was) {
			t.Fatalf("Begin: %s is %s now", brief(was), brief(l))
		}
	}
}

// TestBeginByHand: P8.2, each error, ahead of those that are named behind it.
func TestBeginByHand(t *testing.T) {
	two, full := []api.Upload{up(4, api.Part{N: 1, Data: "first"}), up(6)}, manyUploads(10)
	for i, c := range []struct {
		l    []api.Upload
		id   uint64
		key  string
		want api.Errno
	}{
		{nil, 1, "a", api.OK}, {nil, 1<<48 - 1, longKey(), api.OK}, {two, 7, "k/v", api.OK}, {two, 1<<48 - 1, "k/v", api.OK}, {full[:9], 91, "a", api.OK},
		{nil, 0, "a", api.ErrArg}, {nil, 1 << 48, "a", api.ErrArg}, {nil, math.MaxUint64, "a", api.ErrArg}, {nil, 1, "", api.ErrArg}, {nil, 1, longKey() + "k", api.ErrArg}, {two, 0, "a", api.ErrArg}, {two, 5, "", api.ErrArg}, {full, 0, "a", api.ErrArg}, {full, 1 << 48, "a", api.ErrArg}, {full, 101, "\x7f", api.ErrArg},
		{two, 1, "a", api.ErrOrder}, {two, 4, "a", api.ErrOrder}, {two, 5, "a", api.ErrOrder}, {two, 6, "a", api.ErrOrder}, {full, 100, "a", api.ErrOrder}, {full, 1, "a", api.ErrOrder}, {full[:9], 90, "a", api.ErrOrder},
		{full, 101, "a", api.ErrLarge}, {full, 1<<48 - 1, "a", api.ErrLarge},
	} {
		got, e := Begin(c.l, c.id, c.key)
		if e != c.want || e != api.OK && len(got) != 0 {
			t.Errorf("Begin %d: %s, %d, want %d", i, brief(got), e, c.want)
		}
		if e != api.OK {
			continue
		}
		n := len(c.l)
		if len(got) != n+1 || !same(got[:n], c.l) || got[n].ID != c.id || got[n].Key != c.key || len(got[n].L) != 0 || Check(got) != api.OK {
			t.Errorf("Begin %d: %s", i, brief(got))
		}
	}
}

// TestFindAndAbort: P8.2, at all lists, each ID; what is handed in stays.
func TestFindAndAbort(t *testing.T) {
	ids := append(append(goodIDs(), badIDs()...), 4, 5, 6, 7, 8, 9, 10, 11, 50, 80, 90, 100, 110)
	for _, l := range lists() {
		was := deep(l)
		for _, id := range ids {
			wantUpload, wantErr := find(l, id)
			if got, e := Find(l, id); !sameUpload(got, wantUpload) || e != wantErr {
				t.Fatalf("Find(%s, %d): %s, %d, want %s, %d", brief(l), id, brief(got), e, brief(wantUpload), wantErr)
			}
			want, wantErr := abort(l, id)
			if got, e := Abort(l, id); !same(got, want) || e != wantErr {
				t.Fatalf("Abort(%s, %d): %s, %d, want %s, %d", brief(l), id, brief(got), e, brief(want), wantErr)
			}
		}
		if !same(l, was) {
			t.Fatalf("Find, Abort: %s is %s now", brief(was), brief(l))
		}
	}
}

// TestFindAndAbortByHand: P8.2, the first one, the last one, and none.
func TestFindAndAbortByHand(t *testing.T) {
	a, b, c := up(4, api.Part{N: 1, Data: "first"}), up(6), up(7, api.Part{N: 2}, api.Part{N: 1000, Data: "x"})
	l := []api.Upload{a, b, c}
	for i, x := range []struct {
		id   uint64
		want api.Upload
		left []api.Upload
	}{{4, a, []api.Upload{b, c}}, {6, b, []api.Upload{a, c}}, {7, c, []api.Upload{a, b}}} {
		if got, e := Find(l, x.id); !sameUpload(got, x.want) || e != api.OK {
			t.Errorf("Find %d: %v, %d", i, got, e)
		}
		if got, e := Abort(l, x.id); !same(got, x.left) || e != api.OK {
			t.Errorf("Abort %d: %v, %d", i, got, e)
		}
	}
	for _, id := range []uint64{0, 1, 3, 5, 8, 1<<32 + 4, 1 << 48, 1<<48 + 4, math.MaxUint64} {
		if got, e := Find(l, id); !sameUpload(got, api.Upload{}) || e != api.ErrNone {
			t.Errorf("Find of %d: %v, %d", id, got, e)
		}
		if got, e := Abort(l, id); len(got) != 0 || e != api.ErrNone {
			t.Errorf("Abort of %d: %v, %d", id, got, e)
		}
	}
	if got, e := Abort([]api.Upload{b}, 6); len(got) != 0 || e != api.OK {
		t.Errorf("Abort of the only one: %v, %d", got, e)
	}
	if _, e := Find(nil, 1); e != api.ErrNone {
		t.Errorf("Find among none: %d", e)
	}
	if _, e := Abort(nil, 1); e != api.ErrNone {
		t.Errorf("Abort among none: %d", e)
	}
}

// TestLay: P8.3, at all lists, each part; what is handed in stays.
func TestLay(t *testing.T) {
	ps := append(append(goodParts(), badParts()...), api.Part{N: 9, Data: "nine"}, api.Part{N: 57}, api.Part{N: 58, Data: "between"}, api.Part{N: 59, Data: "59"}, api.Part{N: 60})
	for _, l := range lists() {
		was := deep(l)
		for _, id := range []uint64{0, 1, 2, 3, 7, 8, 10, 20, 100, 1<<48 - 1, 1 << 48} {
			for _, p := range ps {
				want, wantTag, wantErr := lay(l, id, p)
				if got, n, e := Lay(l, id, p); !same(got, want) || n != wantTag || e != wantErr {
					t.Fatalf("Lay(%s, %d, %s): %s, %d, %d, want %s, %d, %d", brief(l), id, brief(p), brief(got), n, e, brief(want), wantTag, wantErr)
				}
			}
		}
		if !same(l, was) {
			t.Fatalf("Lay: %s is %s now", brief(was), brief(l))
		}
	}
}

// TestLayByHand: P8.3, ahead of, between, behind, and in place of others.
func TestLayByHand(t *testing.T) {
	l := []api.Upload{up(3, api.Part{N: 2, Data: "other"}), up(4, api.Part{N: 2, Data: "two"}, api.Part{N: 5, Data: "five"}), up(5)}
	for i, c := range []struct {
		p    api.Part
		want []api.Part
	}{
		{api.Part{N: 1, Data: "one"}, []api.Part{{N: 1, Data: "one"}, {N: 2, Data: "two"}, {N: 5, Data: "five"}}},
		{api.Part{N: 2, Data: ""}, []api.Part{{N: 2, Data: ""}, {N: 5, Data: "five"}}},
		{api.Part{N: 3, Data: "3"}, []api.Part{{N: 2, Data: "two"}, {N: 3, Data: "3"}, {N: 5, Data: "five"}}},
		{api.Part{N: 5, Data: "5"}, []api.Part{{N: 2, Data: "two"}, {N: 5, Data: "5"}}},
		{api.Part{N: 1000, Data: "end"}, []api.Part{{N: 2, Data: "two"}, {N: 5, Data: "five"}, {N: 1000, Data: "end"}}},
	} {
		got, n, e := Lay(l, 4, c.p)
		want := []api.Upload{l[0], up(4, c.want...), l[2]}
		if !same(got, want) || n != tagOf(c.p.Data) || e != api.OK {
			t.Errorf("Lay %d: %v, %d, %d", i, got, n, e)
		}
	}
	got, n, e := Lay(l, 5, api.Part{N: 1, Data: "123456789"})
	if !same(got, []api.Upload{l[0], l[1], up(5, api.Part{N: 1, Data: "123456789"})}) || n != 0xe3069283 || e != api.OK {
		t.Errorf("Lay at one without parts: %v, %d, %d", got, n, e)
	}
}

// TestLayRefused: P8.3, each error, ahead of those that are named behind it; nothing beside it.
func TestLayRefused(t *testing.T) {
	l := []api.Upload{up(4, manyParts(30)...), up(6, manyParts(29)...)}
	for i, c := range []struct {
		id   uint64
		p    api.Part
		want api.Errno
	}{
		{4, api.Part{N: 2, Data: "x"}, api.ErrLarge}, {4, api.Part{N: 60}, api.ErrLarge}, {4, api.Part{N: 1000, Data: strings.Repeat("d", 2000)}, api.ErrLarge},
		{4, api.Part{N: 1, Data: "x"}, api.OK}, {4, api.Part{N: 59, Data: "x"}, api.OK}, {4, api.Part{N: 31}, api.OK}, {6, api.Part{N: 2}, api.OK}, {6, api.Part{N: 1000}, api.OK}, {6, api.Part{N: 1}, api.OK},
		{5, api.Part{N: 2}, api.ErrNone}, {0, api.Part{N: 2}, api.ErrNone}, {1<<32 + 4, api.Part{N: 2}, api.ErrNone}, {math.MaxUint64, api.Part{N: 2}, api.ErrNone},
		{5, api.Part{N: 0}, api.ErrArg}, {4, api.Part{N: 0}, api.ErrArg}, {4, api.Part{N: 1001}, api.ErrArg}, {4, api.Part{N: 1, Data: strings.Repeat("d", 2001)}, api.ErrArg}, {5, api.Part{N: 2, Data: strings.Repeat("d", 2001)}, api.ErrArg}, {4, api.Part{N: -1}, api.ErrArg}, {4, api.Part{N: math.MinInt}, api.ErrArg}, {6, api.Part{N: math.MaxInt}, api.ErrArg},
	} {
		got, n, e := Lay(l, c.id, c.p)
		if e != c.want || e != api.OK && (len(got) != 0 || n != 0) {
			t.Errorf("Lay %d: %s, %d, %d, want %d", i, brief(got), n, e, c.want)
		}
	}
}

// wholeUploads are some to be put together, one of which may not be.
func wholeUploads() []api.Upload {
	long := strings.Repeat("x", 1996)
	return []api.Upload{
		up(1), up(1, api.Part{N: 1, Data: "world"}, api.Part{N: 2, Data: "hello"}, api.Part{N: 3, Data: "four"}, api.Part{N: 1000}),
		up(1, api.Part{N: 1, Data: long}, api.Part{N: 2, Data: "hello"}, api.Part{N: 3, Data: "four"}), up(1, api.Part{N: 2, Data: "world"}, api.Part{N: 1, Data: "hello"}),
	}
}

// somePieces name parts of these, or none.
func somePieces() []api.Piece {
	return []api.Piece{
		piece(1, "world"), piece(2, "hello"), piece(3, "four"), piece(1000, ""), piece(1, strings.Repeat("x", 1996)), piece(1, "hello"), piece(2, ""), piece(3, ""), piece(0, ""), piece(-1, "world"), piece(4, "four"), {N: 2, Tag: ^tagOf("hello")},
	}
}

// TestWhole: P8.4, of some uploads, all lists of at most three pieces; what is handed in stays.
func TestWhole(t *testing.T) {
	all := [][]api.Piece{nil, {}}
	last := [][]api.Piece{nil}
	for range 3 {
		var next [][]api.Piece
		for _, l := range last {
			for _, x := range somePieces() {
				next = append(next, append(slices.Clone(l), x))
			}
		}
		all = append(all, next...)
		last = next
	}
	for _, u := range wholeUploads() {
		wasUpload := deep([]api.Upload{u})
		for _, l := range all {
			was := slices.Clone(l)
			want, wantTag, wantErr := whole(u, l)
			if got, text, e := Whole(u, l); got != want || text != wantTag || e != wantErr {
				t.Fatalf("Whole(%s, %v): %.80q, %s, %d, want %.80q, %s, %d", brief(u), l, got, text, e, want, wantTag, wantErr)
			}
			if !slices.Equal(l, was) {
				t.Fatalf("Whole: %v is %v now", was, l)
			}
		}
		if !same([]api.Upload{u}, wasUpload) {
			t.Fatalf("Whole: %s is %s now", brief(wasUpload), brief(u))
		}
	}
}

// TestWholeByHand: P8.4, ordinary pieces, and the edges.
func TestWholeByHand(t *testing.T) {
	half, five := strings.Repeat("h", 1000), "12345"
	u := up(1, api.Part{N: 1, Data: "first"}, api.Part{N: 2, Data: "second"}, api.Part{N: 7, Data: "end"}, api.Part{N: 8, Data: half}, api.Part{N: 9, Data: half}, api.Part{N: 10, Data: "\x00"}, api.Part{N: 999}, api.Part{N: 1000, Data: five})
	for i, c := range []struct {
		numbers []int
		octets  []string
		want    api.Errno
	}{
		{[]int{1, 2, 7}, []string{"first", "second", "end"}, api.OK}, {[]int{1, 7}, []string{"first", "end"}, api.OK}, {[]int{2}, []string{"second"}, api.OK}, {[]int{7}, []string{"end"}, api.OK}, {[]int{999}, []string{""}, api.OK}, {[]int{1, 999}, []string{"first", ""}, api.OK}, {[]int{8, 9}, []string{half, half}, api.OK}, {[]int{8, 9, 999}, []string{half, half, ""}, api.OK}, {[]int{1, 1000}, []string{"first", five}, api.OK},
		{[]int{8, 9, 10}, []string{half, half, "\x00"}, api.ErrLarge}, {[]int{1, 8, 9}, []string{"first", half, half}, api.ErrLarge},
		{[]int{7, 8}, []string{"end", half}, api.ErrShort}, {[]int{7, 8, 9}, []string{"end", half, half}, api.ErrShort}, {[]int{1, 7, 8, 9}, []string{"first", "end", half, half}, api.ErrShort}, {[]int{999, 1000}, []string{"", five}, api.ErrShort}, {[]int{8, 9, 10, 999}, []string{half, half, "\x00", ""}, api.ErrShort},
		{[]int{3}, []string{"third"}, api.ErrNone}, {[]int{1, 2, 3}, []string{"first", "second", ""}, api.ErrNone}, {[]int{1, 2}, []string{"second", "first"}, api.ErrNone}, {[]int{1, 2}, []string{"first", "Second"}, api.ErrNone}, {[]int{7, 8}, []string{"end", ""}, api.ErrNone}, {[]int{0, 1}, []string{"", "first"}, api.ErrNone}, {[]int{1, 1001}, []string{"first", ""}, api.ErrNone}, {[]int{math.MinInt, math.MaxInt}, []string{"", ""}, api.ErrNone}, {[]int{math.MinInt, 1}, []string{"", "first"}, api.ErrNone}, {[]int{7, 8, 9, 11}, []string{"end", half, half, "x"}, api.ErrNone}, {[]int{1<<32 + 1}, []string{"first"}, api.ErrNone},
		{[]int{2, 1}, []string{"second", "first"}, api.ErrOrder}, {[]int{1, 1}, []string{"first", "first"}, api.ErrOrder}, {[]int{1, 7, 2}, []string{"first", "end", "second"}, api.ErrOrder}, {[]int{3, 3}, []string{"", ""}, api.ErrOrder}, {[]int{3, 7, 7}, []string{"", "", ""}, api.ErrOrder}, {[]int{math.MaxInt, math.MinInt}, []string{"", ""}, api.ErrOrder}, {[]int{-1, -2}, []string{"", ""}, api.ErrOrder}, {[]int{1, 2, 7, 7}, []string{"first", "second", "end", "end"}, api.ErrOrder},
		{nil, nil, api.ErrArg},
	} {
		var l []api.Piece
		for k, n := range c.numbers {
			l = append(l, piece(n, c.octets[k]))
		}
		want, wantTag := "", ""
		if c.want == api.OK {
			want, wantTag = strings.Join(c.octets, ""), manyOf(c.octets...)
		}
		if got, text, e := Whole(u, l); got != want || text != wantTag || e != c.want {
			t.Errorf("Whole %d: %.80q, %s, %d, want %.80q, %s, %d", i, got, text, e, want, wantTag, c.want)
		}
	}
}

// TestWholeOfBad: P8.4, ErrArg of an upload that may not be, ahead of all other errors.
func TestWholeOfBad(t *testing.T) {
	for i, u := range badUploads() {
		for _, l := range [][]api.Piece{nil, {piece(1, "")}, {piece(2, ""), piece(1, "")}, {piece(3, "no")}, pieces(u.L[:min(len(u.L), 3)])} {
			if got, text, e := Whole(u, l); got != "" || text != "" || e != api.ErrArg {
				t.Errorf("Whole of bad upload %d, %v: %.80q, %s, %d", i, l, got, text, e)
			}
		}
	}
	if _, _, e := Whole(api.Upload{}, []api.Piece{piece(1, "")}); e != api.ErrArg {
		t.Errorf("Whole of an upload that is zero: %d", e)
	}
}

// TestWholeOfMost: P8.4, of as many parts, of as many octets as there may be, and of more pieces than tags may be.
func TestWholeOfMost(t *testing.T) {
	u := api.Upload{ID: 1<<48 - 1, Key: longKey()}
	var all []string
	for i := range 30 {
		s := strings.Repeat(string([]byte{byte(i)}), 66)
		if i == 29 {
			s = strings.Repeat("e", 2000-29*66)
		}
		all = append(all, s)
		u.L = append(u.L, api.Part{N: 971 + i, Data: s})
	}
	if got, text, e := Whole(u, pieces(u.L)); got != strings.Join(all, "") || text != manyOf(all...) || e != api.OK {
		t.Errorf("Whole of 30: %.80q, %s, %d", got, text, e)
	}
	u.L[29].Data += "e"
	if got, text, e := Whole(u, pieces(u.L)); got != "" || text != "" || e != api.ErrLarge {
		t.Errorf("Whole of 2001 octets: %.80q, %s, %d", got, text, e)
	}
	var many []api.Piece
	for i := range 100000 {
		many = append(many, piece(i+1, ""))
	}
	if got, text, e := Whole(up(1, api.Part{N: 1}), many); got != "" || text != "" || e != api.ErrNone {
		t.Errorf("Whole of many pieces: %.80q, %s, %d", got, text, e)
	}
	many[99999].N = 1
	if got, text, e := Whole(up(1, api.Part{N: 1}), many); got != "" || text != "" || e != api.ErrOrder {
		t.Errorf("Whole of many pieces, the last one not in order: %.80q, %s, %d", got, text, e)
	}
}

// scribble writes over all that uploads have, and what room there is behind them.
func scribble(l []api.Upload) {
	l = l[:cap(l)]
	for i := range l {
		ps := l[i].L[:cap(l[i].L)]
		for k := range ps {
			ps[k] = api.Part{N: 999, Data: "scribble"}
		}
		l[i] = up(999)
	}
}

// roomy is uploads with room behind all lists.
func roomy() []api.Upload {
	l := slices.Grow(manyUploads(5), 10)
	for i := range l {
		l[i].L = slices.Grow(l[i].L, 10)
	}
	return l
}

// TestNewMemory: P8.2, P8.3, what is answered shares nothing with what was handed in, even where there is room behind it.
func TestNewMemory(t *testing.T) {
	for i, call := range []func(l []api.Upload) ([]api.Upload, api.Errno){
		func(l []api.Upload) ([]api.Upload, api.Errno) { return Begin(l, 999, "a") },
		func(l []api.Upload) ([]api.Upload, api.Errno) { return Abort(l, 10) },
		func(l []api.Upload) ([]api.Upload, api.Errno) { return Abort(l, 30) },
		func(l []api.Upload) ([]api.Upload, api.Errno) { return Abort(l, 50) },
		func(l []api.Upload) ([]api.Upload, api.Errno) {
			u, e := Find(l, 30)
			return []api.Upload{u}, e
		},
		func(l []api.Upload) ([]api.Upload, api.Errno) {
			all, _, e := Lay(l, 30, api.Part{N: 2, Data: "new"})
			return all, e
		},
		func(l []api.Upload) ([]api.Upload, api.Errno) {
			all, _, e := Lay(l, 30, api.Part{N: 1, Data: "new"})
			return all, e
		},
		func(l []api.Upload) ([]api.Upload, api.Errno) {
			all, _, e := Lay(l, 10, api.Part{N: 1000, Data: "new"})
			return all, e
		},
	} {
		l, was := roomy(), roomy()
		got, e := call(l)
		if e != api.OK {
			t.Fatalf("call %d: %d", i, e)
		}
		scribble(got)
		if !same(l[:cap(l)], was[:cap(was)]) {
			t.Fatalf("call %d: %v is %v now", i, was, l)
		}
		for k := range l {
			if room := l[k].L[:cap(l[k].L)]; slices.Contains(room, api.Part{N: 999, Data: "scribble"}) {
				t.Fatalf("call %d: something was laid behind the parts of %d", i, k)
			}
		}
	}
}

// orders is all orders of the numbers below n.
func orders(n int) [][]int {
	all := [][]int{nil}
	for i := range n {
		var next [][]int
		for _, o := range all {
			for at := range len(o) + 1 {
				next = append(next, slices.Insert(slices.Clone(o), at, i))
			}
		}
		all = next
	}
	return all
}

// TestAnyOrder: P8.5, in whatever order parts come, the whole is the same; the last one of a number counts.
func TestAnyOrder(t *testing.T) {
	ps := []api.Part{{N: 1, Data: "first"}, {N: 2, Data: "second"}, {N: 30, Data: "third"}, {N: 999, Data: "fourth"}, {N: 1000, Data: "end"}}
	start, _ := Begin(nil, 4, "k/v")
	start, _ = Begin(start, 5, "k/v")
	for _, order := range orders(5) {
		l := start
		for _, i := range order {
			l, _, _ = Lay(l, 4, api.Part{N: ps[i].N, Data: strings.Repeat("old", i)})
		}
		for _, i := range order {
			next, n, e := Lay(l, 4, ps[i])
			if n != tagOf(ps[i].Data) || e != api.OK || Check(next) != api.OK {
				t.Fatalf("Lay, in the order %v: %d, %d", order, n, e)
			}
			l = next
		}
		u, _ := Find(l, 4)
		if !same(l, []api.Upload{up(4, ps...), up(5)}) || Octets(l) != 25 {
			t.Fatalf("in the order %v: %v", order, l)
		}
		if got, text, e := Whole(u, pieces(ps)); got != "firstsecondthirdfourthend" || text != manyOf("first", "second", "third", "fourth", "end") || e != api.OK {
			t.Fatalf("Whole, in the order %v: %q, %s, %d", order, got, text, e)
		}
	}
}

// TestManySteps: P8.5, along many steps, each held against the document's words; uploads that may be stay such.
func TestManySteps(t *testing.T) {
	var l []api.Upload
	next := uint64(1)
	chance := uint32(1)
	for step := range 20000 {
		chance = chance*1664525 + 1013904223
		a, b := chance>>24, int(chance>>8%50)
		id := next - min(next, uint64(chance>>12%16))
		p := api.Part{N: b, Data: strings.Repeat("s", int(chance>>10%90))}
		var got, want []api.Upload
		var e, wantErr api.Errno
		switch {
		case a < 30:
			got, e = Begin(l, next, "k")
			want, wantErr = begin(l, next, "k")
			next += 2
		case a < 40:
			got, e = Abort(l, id)
			want, wantErr = abort(l, id)
		default:
			got, _, e = Lay(l, id, p)
			want, _, wantErr = lay(l, id, p)
		}
		if !same(got, want) || e != wantErr {
			t.Fatalf("step %d: %s, %d, want %s, %d", step, brief(got), e, brief(want), wantErr)
		}
		if e == api.OK {
			l = got
		}
		if Check(l) != api.OK {
			t.Fatalf("step %d: uploads that may not be: %s", step, brief(l))
		}
		for _, u := range l {
			octets, text, e := Whole(u, pieces(u.L))
			if want, wantTag, wantErr := whole(u, pieces(u.L)); octets != want || text != wantTag || e != wantErr {
				t.Fatalf("step %d: Whole: %.80q, %s, %d, want %.80q, %s, %d", step, octets, text, e, want, wantTag, wantErr)
			}
		}
	}
}

// TestExamples: the chapter's examples.
func TestExamples(t *testing.T) {
	l, _ := Begin(nil, 1, "k")
	l, two, _ := Lay(l, 1, api.Part{N: 2, Data: "hello"})
	l, one, _ := Lay(l, 1, api.Part{N: 1, Data: "world"})
	u, _ := Find(l, 1)
	rising := []api.Piece{{N: 1, Tag: one}, {N: 2, Tag: two}}
	if got, text, e := Whole(u, rising); got != "worldhello" || text != manyOf("world", "hello") || e != api.OK {
		t.Errorf("Whole of 1, 2: %q, %s, %d", got, text, e)
	}
	if got, text, e := Whole(u, []api.Piece{rising[1], rising[0]}); got != "" || text != "" || e != api.ErrOrder {
		t.Errorf("Whole of 2, 1: %q, %s, %d", got, text, e)
	}
	l, one, _ = Lay(l, 1, api.Part{N: 1, Data: "four"})
	u, _ = Find(l, 1)
	if got, text, e := Whole(u, []api.Piece{{N: 1, Tag: one}, rising[1]}); got != "" || text != "" || e != api.ErrShort {
		t.Errorf("Whole of a first part of 4 octets: %q, %s, %d", got, text, e)
	}
}
