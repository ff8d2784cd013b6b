package index

import (
	"math"
	"slices"
	"sort"
	"strings"
	"testing"

	"cellarer/api"
)

// ver is a version with one octet.
func ver(id uint64, at int) api.Version {
	return api.Version{ID: id, Data: "x", At: at}
}

// mark is a Mark.
func mark(id uint64, at int) api.Version {
	return api.Version{ID: id, Mark: true, At: at}
}

// ent is an entry.
func ent(key string, l ...api.Version) api.Entry {
	return api.Entry{Key: key, L: l}
}

// one is a chain of one version.
func one() []api.Version { return []api.Version{ver(1, 0)} }

// longChain is a chain of so many versions.
func longChain(n int) []api.Version {
	var l []api.Version
	for i := range n {
		l = append(l, ver(uint64(n-i), 7))
	}
	return l
}

// longKey is a key of 60 octets.
func longKey() string { return strings.Repeat("k", 60) }

// goodKeys are keys; each edge is there.
func goodKeys() []string {
	return []string{" ", "~", "a", "/", "a/b", "a~", "A", longKey(), strings.Repeat("~", 60)}
}

// badKeys are none.
func badKeys() []string {
	return []string{"", "\x1f", "\x7f", "\x00", "\n", "\xff", "a\x1f", "\x7fa", "\u00e9", longKey() + "k", strings.Repeat("k", 100000)}
}

// goodChains may be, each as an entry's versions.
func goodChains() [][]api.Version {
	return [][]api.Version{
		one(), {{}}, {mark(0, 0)}, {mark(3, 5), ver(2, 5), ver(0, 4), ver(1, 0)}, {ver(1<<48-1, 1<<40-1)}, {{ID: 9, Data: strings.Repeat("\x00", 2000)}}, longChain(20),
	}
}

// badChains may not be, each for one reason.
func badChains() [][]api.Version {
	return [][]api.Version{
		{ver(1, 0), ver(2, 0)}, {ver(1, 0), ver(1, 0)}, {ver(0, 0), ver(0, 0)}, {ver(2, 0), ver(1, 1)}, {ver(1<<48, 0)}, {ver(math.MaxUint64, 0)}, {ver(1, -1)}, {ver(1, math.MinInt)}, {ver(1, 1<<40)}, {ver(1, math.MaxInt)},
		{{ID: 1, Data: strings.Repeat("d", 2001)}}, {{ID: 1, Mark: true, Data: "x"}}, longChain(21), longChain(100000),
	}
}

// fullIndex is an index of so many keys, all of two octets, rising.
func fullIndex(n int) []api.Entry {
	var l []api.Entry
	for i := range n {
		l = append(l, ent(string([]byte{byte('0' + i/60), byte('0' + i%60)}), ver(1, i)))
	}
	return l
}

// some are entries of which small indices are made, some of which no index may have.
func some() []api.Entry {
	return []api.Entry{
		ent("b", ver(1, 0)), ent("a", ver(1, 0)), ent("a", mark(3, 5), ver(0, 4)), ent("a/b", mark(0, 0)), ent("c", ver(2, 1), ver(1, 1)), ent("c"), ent("", ver(1, 0)), ent("b", ver(1, 0), ver(2, 0)), ent("\x7f", ver(1, 0)),
	}
}

// smallIndices is all indices of at most three of these entries.
func smallIndices() [][]api.Entry {
	all := [][]api.Entry{nil, {}}
	last := [][]api.Entry{nil}
	for range 3 {
		var next [][]api.Entry
		for _, l := range last {
			for _, e := range some() {
				next = append(next, append(slices.Clone(l), e))
			}
		}
		all = append(all, next...)
		last = next
	}
	return all
}

// longIndices are at and beyond the most keys.
func longIndices() [][]api.Entry {
	return [][]api.Entry{fullIndex(58), fullIndex(59), fullIndex(60), fullIndex(61), fullIndex(62), fullIndex(2000)}
}

// isKey: is it one, as the document's words say it?
func isKey(s string) bool {
	for i := range len(s) {
		if s[i] < 32 || s[i] > 126 {
			return false
		}
	}
	return len(s) >= 1 && len(s) <= 60
}

// chainMayBe: may a chain be, as the document's words say it? Each two versions are held against each other.
func chainMayBe(l []api.Version) bool {
	if len(l) > 20 {
		return false
	}
	for i, v := range l {
		if v.ID > 1<<48-1 || v.At < 0 || v.At > 1<<40-1 || len(v.Data) > 2000 || v.Mark && v.Data != "" {
			return false
		}
		for _, older := range l[i+1:] {
			if older.At > v.At || older.ID == v.ID || older.ID != 0 && v.ID != 0 && older.ID > v.ID {
				return false
			}
		}
	}
	return true
}

// indexMayBe: may an index be? Each two keys are held against each other.
func indexMayBe(l []api.Entry) bool {
	if len(l) > 60 {
		return false
	}
	for i, e := range l {
		if !isKey(e.Key) || len(e.L) == 0 || !chainMayBe(e.L) {
			return false
		}
		for _, behind := range l[i+1:] {
			if behind.Key <= e.Key {
				return false
			}
		}
	}
	return true
}

// put is what Put answers, as the document's words say it: all entries but that of the key, and it, sorted.
func put(l []api.Entry, key string, c []api.Version) ([]api.Entry, api.Errno) {
	if !indexMayBe(l) || !isKey(key) || !chainMayBe(c) {
		return nil, api.ErrArg
	}
	var laid []api.Entry
	for _, e := range l {
		if e.Key != key {
			laid = append(laid, e)
		}
	}
	if len(laid) == len(l) && len(c) > 0 && len(l) == 60 {
		return nil, api.ErrLarge
	}
	if len(c) > 0 {
		laid = append(laid, api.Entry{Key: key, L: c})
	}
	sort.Slice(laid, func(i, k int) bool { return laid[i].Key < laid[k].Key })
	return laid, api.OK
}

// same: the same entries, in order?
func same(a, b []api.Entry) bool {
	if len(a) != len(b) {
		return false
	}
	for i := range a {
		if a[i].Key != b[i].Key || len(a[i].L) != len(b[i].L) {
			return false
		}
		for k := range a[i].L {
			if a[i].L[k] != b[i].L[k] {
				return false
			}
		}
	}
	return true
}

// deep is the same index in memory of its own.
func deep(l []api.Entry) []api.Entry {
	var own []api.Entry
	for _, e := range l {
		own = append(own, ent(e.Key, append([]api.Version{}, e.L...)...))
	}
	return own
}

// TestCheck: P6.1, small indices and long ones; one that may not be is ErrArg, and stays as it is.
func TestCheck(t *testing.T) {
	good := 0
	for _, l := range append(smallIndices(), longIndices()...) {
		was, want := deep(l), api.ErrArg
		if indexMayBe(l) {
			want = api.OK
			good++
		}
		if got := Check(l); got != want || !same(l, was) {
			t.Errorf("Check(%.200v): %d, want %d", l, got, want)
		}
	}
	if good < 10 {
		t.Errorf("only %d indices may be", good)
	}
}

// TestCheckMost: P6.1, at most 60 entries.
func TestCheckMost(t *testing.T) {
	for n, want := range map[int]api.Errno{0: api.OK, 1: api.OK, 59: api.OK, 60: api.OK, 61: api.ErrArg, 62: api.ErrArg, 120: api.ErrArg, 3000: api.ErrArg} {
		if got := Check(fullIndex(n)); got != want {
			t.Errorf("Check of %d: %d", n, got)
		}
	}
}

// TestCheckKeys: P6.1, each key is one, alone, first, and last.
func TestCheckKeys(t *testing.T) {
	for _, k := range goodKeys() {
		if got := Check([]api.Entry{ent(k, one()...)}); got != api.OK {
			t.Errorf("Check of %q: %d", k, got)
		}
	}
	for _, k := range badKeys() {
		for i, l := range [][]api.Entry{{ent(k, one()...)}, {ent(k, one()...), ent("~~", one()...)}, {ent(" ", one()...), ent(k, one()...)}, append(fullIndex(59), ent(k, one()...))} {
			if got := Check(l); got != api.ErrArg {
				t.Errorf("Check %d of %.80q: %d", i, k, got)
			}
		}
	}
	for c := range 256 {
		k, want := string([]byte{'a', byte(c)}), api.ErrArg
		if c >= 32 && c <= 126 {
			want = api.OK
		}
		if got := Check([]api.Entry{ent(k, one()...)}); got != want {
			t.Errorf("Check of %q: %d", k, got)
		}
	}
}

// TestCheckOrder: P6.1, keys rise, octet by octet, none twice.
func TestCheckOrder(t *testing.T) {
	rising := []string{" ", " a", "!", "/", "0", "10", "9", "A", "Z", "a", "a ", "a!", "a/", "a/b", "a0", "aa", "ab", "b", "z", "~", "~ ", "~~"}
	var all []api.Entry
	for i, low := range rising {
		all = append(all, ent(low, one()...))
		if got := Check([]api.Entry{ent(low, one()...), ent(low, ver(9, 9))}); got != api.ErrArg {
			t.Errorf("Check of %q twice: %d", low, got)
		}
		for _, high := range rising[i+1:] {
			if got := Check([]api.Entry{ent(low, one()...), ent(high, one()...)}); got != api.OK {
				t.Errorf("Check of %q, %q: %d", low, high, got)
			}
			if got := Check([]api.Entry{ent(high, one()...), ent(low, one()...)}); got != api.ErrArg {
				t.Errorf("Check of %q, %q: %d", high, low, got)
			}
		}
	}
	if got := Check(all); got != api.OK {
		t.Errorf("Check of all: %d", got)
	}
	for i := range all[1:] {
		off := slices.Clone(all)
		off[i], off[i+1] = off[i+1], off[i]
		if got := Check(off); got != api.ErrArg {
			t.Errorf("Check with %d and the next one turned: %d", i, got)
		}
	}
	if got := Check([]api.Entry{ent("b", one()...), ent("a", one()...), ent("c", one()...), ent("b", one()...)}); got != api.ErrArg {
		t.Errorf("Check of one far off twice: %d", got)
	}
}

// TestCheckVersions: P6.1, each entry's versions may be, and are one at the least, wherever the entry stands.
func TestCheckVersions(t *testing.T) {
	for _, c := range goodChains() {
		if got := Check([]api.Entry{ent("a", one()...), ent("b", c...), ent("c", one()...)}); got != api.OK {
			t.Errorf("Check of %.80v: %d", c, got)
		}
	}
	for _, c := range append(badChains(), nil, []api.Version{}) {
		for at := range 3 {
			l := []api.Entry{ent("a", one()...), ent("b", one()...), ent("c", one()...)}
			l[at].L = c
			if got := Check(l); got != api.ErrArg {
				t.Errorf("Check of %.80v at %d: %d", c, at, got)
			}
		}
	}
}

// TestSame: P6.1, part by part: keys, versions, their parts, how many, and in which order.
func TestSame(t *testing.T) {
	base := []api.Entry{ent("a", ver(2, 5), mark(1, 4)), ent("b", ver(0, 0))}
	others := [][]api.Entry{
		nil, {base[0]}, {base[1]}, {base[1], base[0]}, {base[0], base[1], ent("c", ver(1, 0))}, {base[0], base[1], base[1]}, {base[0], base[0]},
		{ent("A", ver(2, 5), mark(1, 4)), base[1]}, {base[0], ent("b ", ver(0, 0))}, {base[0], ent("", ver(0, 0))},
		{ent("a", ver(2, 5)), base[1]}, {ent("a", mark(1, 4)), base[1]}, {ent("a"), base[1]}, {base[0], ent("b")}, {ent("a", mark(1, 4), ver(2, 5)), base[1]}, {ent("a", ver(2, 5), mark(1, 4), ver(0, 4)), base[1]}, {base[0], ent("b", ver(0, 0), ver(0, 0))},
		{ent("a", ver(3, 5), mark(1, 4)), base[1]}, {ent("a", ver(2, 6), mark(1, 4)), base[1]}, {ent("a", ver(2, 5), mark(1, 3)), base[1]}, {ent("a", ver(2, 5), ver(1, 4)), base[1]}, {ent("a", ver(2, 5), api.Version{ID: 1, At: 4}), base[1]},
		{ent("a", api.Version{ID: 2, Data: "y", At: 5}, mark(1, 4)), base[1]}, {ent("a", api.Version{ID: 2, At: 5}, mark(1, 4)), base[1]}, {base[0], ent("b", api.Version{Data: "xx"})}, {base[0], ent("b", mark(0, 0))},
	}
	for i, l := range others {
		if Same(base, l) || Same(l, base) {
			t.Errorf("Same of other %d: true", i)
		}
	}
	for i, l := range append(others, base) {
		if !Same(l, l) || !Same(l, deep(l)) || !Same(deep(l), l) {
			t.Errorf("Same of %d and itself: false", i)
		}
	}
	if !Same(nil, []api.Entry{}) || !Same([]api.Entry{}, nil) || !Same([]api.Entry{{Key: "a"}}, []api.Entry{{Key: "a", L: []api.Version{}}}) {
		t.Error("Same tells a list that is nil from one without elements")
	}
}

// TestSamePairs: P6.1, each two small indices, whether they may be or not.
func TestSamePairs(t *testing.T) {
	for _, a := range smallIndices() {
		for _, b := range smallIndices()[:200] {
			if got, want := Same(a, b), same(a, b); got != want {
				t.Fatalf("Same(%v, %v): %v", a, b, got)
			}
		}
	}
}

// TestAt: P6.2, how many keys are less, of all indices, and of each text, be it a key or not.
func TestAt(t *testing.T) {
	texts := slices.Concat(goodKeys(), badKeys(), []string{"b", "c", "d", "a/", "a/b/", "a/a", "B", "00", "01", "0k", "0m", "10", "1", "z"})
	for _, l := range append(smallIndices(), longIndices()...) {
		was := deep(l)
		for _, key := range texts {
			want := 0
			for _, e := range l {
				if strings.Compare(e.Key, key) < 0 {
					want++
				}
			}
			if got := At(l, key); got != want {
				t.Fatalf("At(%.200v, %.80q): %d, want %d", l, key, got, want)
			}
		}
		if !same(l, was) {
			t.Fatalf("At: %.200v is %.200v now", was, l)
		}
	}
}

// TestAtByHand: P6.2, in an index that may be, and in one whose keys don't rise.
func TestAtByHand(t *testing.T) {
	l := []api.Entry{ent("a", one()...), ent("a/b", one()...), ent("c", one()...)}
	for key, want := range map[string]int{"": 0, " ": 0, "A": 0, "a": 0, "a ": 1, "a/": 1, "a/b": 1, "a/b ": 2, "b": 2, "c": 2, "c ": 3, "~": 3, "\xff": 3, "\x00": 0} {
		if got := At(l, key); got != want {
			t.Errorf("At(%q): %d, want %d", key, got, want)
		}
	}
	off := []api.Entry{ent("c"), ent("a"), ent("d"), ent("a"), ent(""), ent("b")}
	for key, want := range map[string]int{"": 0, "a": 1, "b": 3, "c": 4, "d": 5, "e": 6} {
		if got := At(off, key); got != want {
			t.Errorf("At(%q) of keys that do not rise: %d, want %d", key, got, want)
		}
	}
}

// TestGet: P6.2, the first entry's versions of a key, whether the index may be or not; none, if there is none.
func TestGet(t *testing.T) {
	for _, l := range append(smallIndices(), longIndices()...) {
		was := deep(l)
		for _, key := range []string{"", "a", "a/b", "b", "c", "\x7f", "d", "A", "a/", "00", "0k", "10", "~", longKey()} {
			var want []api.Version
			for i := len(l) - 1; i >= 0; i-- {
				if l[i].Key == key {
					want = l[i].L
				}
			}
			got := Get(l, key)
			if !slices.Equal(got, want) {
				t.Fatalf("Get(%.200v, %q): %v, want %v", l, key, got, want)
			}
			for i := range got {
				got[i] = ver(77, 77)
			}
		}
		if !same(l, was) {
			t.Fatalf("Get shares memory: %.200v is %.200v now", was, l)
		}
	}
}

// TestGetByHand: P6.2, of several entries of a key the first one counts, and a key is whole.
func TestGetByHand(t *testing.T) {
	l := []api.Entry{ent("b", ver(3, 0)), ent("a", ver(2, 0), ver(1, 0)), ent("a", ver(9, 0)), ent("c"), ent("c", ver(4, 0)), ent("", ver(5, 0))}
	for key, want := range map[string][]api.Version{"a": {ver(2, 0), ver(1, 0)}, "b": {ver(3, 0)}, "c": nil, "": {ver(5, 0)}, "d": nil, "ab": nil, "A": nil, "a ": nil} {
		if got := Get(l, key); !slices.Equal(got, want) {
			t.Errorf("Get(%q): %v, want %v", key, got, want)
		}
	}
	if got := Get(nil, "a"); len(got) != 0 {
		t.Errorf("Get of an empty index: %v", got)
	}
}

// TestCount: P6.2, versions, Marks with them, and octets, whether the index may be or not.
func TestCount(t *testing.T) {
	long := api.Version{Data: strings.Repeat("d", 100000)}
	for i, c := range []struct {
		l                []api.Entry
		versions, octets int
	}{
		{nil, 0, 0}, {[]api.Entry{}, 0, 0}, {[]api.Entry{ent("a")}, 0, 0}, {[]api.Entry{ent("a", mark(1, 0))}, 1, 0}, {[]api.Entry{ent("a", api.Version{})}, 1, 0}, {[]api.Entry{ent("a", ver(1, 0))}, 1, 1},
		{[]api.Entry{ent("a", ver(2, 0), mark(1, 0)), ent("b", api.Version{Data: "abc"})}, 3, 4}, {[]api.Entry{ent("b", ver(1, 0)), ent("a", ver(1, 0)), ent("a", ver(1, 0))}, 3, 3},
		{[]api.Entry{ent("a", api.Version{Data: "\x00\xff\u00e9"})}, 1, 4}, {[]api.Entry{ent("a", api.Version{Mark: true, Data: "xy"})}, 1, 2}, {[]api.Entry{ent(longKey(), longChain(20)...)}, 20, 20}, {[]api.Entry{ent("", longChain(30)...)}, 30, 30},
		{[]api.Entry{ent("a", long, long), ent("b", long)}, 3, 300000}, {fullIndex(60), 60, 60}, {fullIndex(2000), 2000, 2000},
	} {
		was := deep(c.l)
		if versions, octets := Count(c.l); versions != c.versions || octets != c.octets || !same(c.l, was) {
			t.Errorf("Count %d: %d, %d, want %d, %d", i, versions, octets, c.versions, c.octets)
		}
	}
	// One text that stands in many versions: more octets than 32 bits count.
	many := ent("a", slices.Repeat([]api.Version{{Data: strings.Repeat("d", 1<<20)}}, 5000)...)
	if versions, octets := Count([]api.Entry{many, many}); versions != 10000 || octets != 10000<<20 {
		t.Errorf("Count of many: %d, %d", versions, octets)
	}
}

// TestPut: P6.3, each key and each chain put in each index, as the document's words say it; what is handed in stays.
func TestPut(t *testing.T) {
	keys := slices.Concat(goodKeys(), badKeys(), []string{"b", "c", "a/", "d", "00", "0k", "0!", "0~", "10"})
	chains := slices.Concat(goodChains(), badChains(), [][]api.Version{nil, {}})
	for _, l := range append(smallIndices(), longIndices()...) {
		was := deep(l)
		for _, key := range keys {
			for _, c := range chains {
				want, wantErr := put(l, key, c)
				if got, e := Put(l, key, c); !same(got, want) || e != wantErr {
					t.Fatalf("Put(%.200v, %.80q, %.80v): %.200v, %d, want %.200v, %d", l, key, c, got, e, want, wantErr)
				}
			}
		}
		if !same(l, was) {
			t.Fatalf("Put: %.200v is %.200v now", was, l)
		}
	}
}

// TestPutPlaces: P6.3, each place of an index: put in ahead of it, behind it, put over, and taken away.
func TestPutPlaces(t *testing.T) {
	for _, n := range []int{0, 1, 2, 3, 59, 60} {
		l := fullIndex(n)
		for i := range n {
			key := l[i].Key
			for _, c := range [][]api.Version{nil, {}, one(), longChain(20)} {
				for _, k := range []string{key, key + " ", key[:1] + string([]byte{key[1] - 1}) + "~"} {
					want, wantErr := put(l, k, c)
					if got, e := Put(l, k, c); !same(got, want) || e != wantErr {
						t.Fatalf("Put of %d versions of %q in %d: %.200v, %d, want %.200v, %d", len(c), k, n, got, e, want, wantErr)
					}
				}
			}
		}
	}
}

// TestPutRefused: P6.3, each reason alone, and the one that is named first where there are several; nothing beside an error.
func TestPutRefused(t *testing.T) {
	l, full, bad := []api.Entry{ent("b", one()...)}, fullIndex(60), badChains()[0]
	for i, c := range []struct {
		l    []api.Entry
		key  string
		c    []api.Version
		want api.Errno
	}{
		{[]api.Entry{ent("b")}, "a", one(), api.ErrArg}, {[]api.Entry{ent("b", bad...)}, "a", one(), api.ErrArg}, {[]api.Entry{ent("", one()...)}, "a", one(), api.ErrArg}, {[]api.Entry{ent("b", one()...), ent("a", one()...)}, "c", one(), api.ErrArg}, {[]api.Entry{ent("b", one()...), ent("b", one()...)}, "b", one(), api.ErrArg}, {fullIndex(61), "00", one(), api.ErrArg}, {fullIndex(61), "00", nil, api.ErrArg}, {[]api.Entry{ent("b")}, "b", one(), api.ErrArg}, {[]api.Entry{ent("b")}, "b", nil, api.ErrArg},
		{l, "", one(), api.ErrArg}, {l, "", nil, api.ErrArg}, {l, "\n", one(), api.ErrArg}, {l, "\x7f", nil, api.ErrArg}, {l, longKey() + "k", one(), api.ErrArg}, {l, longKey() + "k", nil, api.ErrArg}, {nil, "", nil, api.ErrArg},
		{l, "a", bad, api.ErrArg}, {l, "b", bad, api.ErrArg}, {l, "a", longChain(21), api.ErrArg}, {nil, "a", bad, api.ErrArg},
		{full, "zz", one(), api.ErrLarge}, {full, " ", one(), api.ErrLarge}, {full, "0A ", one(), api.ErrLarge}, {full, longKey(), longChain(20), api.ErrLarge},
		{full, "", one(), api.ErrArg}, {full, "\xff", one(), api.ErrArg}, {full, "zz", bad, api.ErrArg}, {fullIndex(61), "zz", one(), api.ErrArg},
		{full, "zz", nil, api.OK}, {full, "zz", []api.Version{}, api.OK}, {full, "00", nil, api.OK}, {full, full[59].Key, nil, api.OK}, {full, full[0].Key, longChain(20), api.OK}, {full, full[59].Key, one(), api.OK}, {fullIndex(59), "zz", one(), api.OK}, {fullIndex(59), " ", one(), api.OK}, {nil, longKey(), one(), api.OK}, {nil, "a", nil, api.OK}, {l, "a", nil, api.OK},
	} {
		got, e := Put(c.l, c.key, c.c)
		if e != c.want || e != api.OK && len(got) != 0 {
			t.Errorf("Put %d: %v, %d, want %d", i, got, e, c.want)
		}
	}
}

// roomy is the same index in memory of its own, with room behind it, and behind each entry's versions.
func roomy(l []api.Entry) []api.Entry {
	own := slices.Grow(deep(l), 10)
	for i := range own {
		own[i].L = slices.Grow(own[i].L, 10)
	}
	behind := own[:cap(own)]
	for i := len(own); i < len(behind); i++ {
		behind[i] = ent("behind", ver(5, 5))
	}
	return own
}

// spoil writes over all of an index, and over what is behind it.
func spoil(l []api.Entry) {
	l = l[:cap(l)]
	for i := range l {
		c := l[i].L[:cap(l[i].L)]
		for k := range c {
			c[k] = ver(66, 66)
		}
		l[i] = ent("spoilt")
	}
}

// putRoomy is what Put answers of an index and versions with room behind them, and these.
func putRoomy(n int, key string, versions int) (got, l []api.Entry, c []api.Version, e api.Errno) {
	l = roomy(fullIndex(n))
	c = slices.Grow(longChain(versions), 10)
	got, e = Put(l, key, c)
	return got, l, c, e
}

// TestNewMemory: P6.3, what is answered shares nothing with what was handed in, even where there is room behind it.
func TestNewMemory(t *testing.T) {
	for _, n := range []int{0, 1, 2, 5} {
		for at := range n + 1 {
			key := "0" + string([]byte{byte('0' + at)})
			for _, k := range []string{key, key + "x", " ", "~"} {
				for _, versions := range []int{0, 3} {
					got, l, c, e := putRoomy(n, k, versions)
					was := roomy(fullIndex(n))
					if e != api.OK || !same(l[:cap(l)], was[:cap(was)]) || !slices.Equal(c, longChain(versions)) {
						t.Fatalf("Put of %q in %d: %d, %v was handed in", k, n, e, l[:cap(l)])
					}
					want := deep(got)
					spoil(l)
					for i := range c {
						c[i] = ver(66, 66)
					}
					if !same(got, want) {
						t.Fatalf("Put of %q in %d: the answer has what was handed in", k, n)
					}
					got, l, c, _ = putRoomy(n, k, versions)
					spoil(got)
					if !same(l[:cap(l)], was[:cap(was)]) || !slices.Equal(c, longChain(versions)) {
						t.Fatalf("Put of %q in %d: what was handed in has the answer", k, n)
					}
				}
			}
		}
	}
}

// TestOwnLists: P6.3, no two lists of one answer share memory, where those that were handed in did.
func TestOwnLists(t *testing.T) {
	shared := one()
	got, e := Put([]api.Entry{{Key: "a", L: shared}, {Key: "b", L: shared}}, "c", shared)
	if len(got) != 3 || e != api.OK {
		t.Fatalf("Put: %v, %d", got, e)
	}
	got[0].L[0].ID = 9
	if got[1].L[0].ID != 1 || got[2].L[0].ID != 1 || shared[0].ID != 1 {
		t.Errorf("Put: lists of one answer share memory: %v", got)
	}
}

// TestPutIsGot: P6.4, along many steps: what is put is got, all other keys have what they had, and the index may be.
func TestPutIsGot(t *testing.T) {
	var l []api.Entry
	kept := map[string][]api.Version{}
	chains := append(goodChains(), nil)
	chance, full := uint32(1), 0
	for step := range 20000 {
		chance = chance*1664525 + 1013904223
		key := string([]byte{byte('a' + chance>>16%9), byte(' ' + chance>>20%9)})
		c := chains[int(chance>>24)%len(chains)]
		next, e := Put(l, key, c)
		if _, there := kept[key]; !there && len(c) > 0 && len(kept) == api.MaxKeys {
			full++
			if e != api.ErrLarge || len(next) != 0 {
				t.Fatalf("step %d: Put of one too many: %d", step, e)
			}
			continue
		}
		if e != api.OK || Check(next) != api.OK {
			t.Fatalf("step %d: Put(%q): %d, %d", step, key, e, Check(next))
		}
		l = next
		kept[key] = c
		if len(c) == 0 {
			delete(kept, key)
		}
		if len(l) != len(kept) {
			t.Fatalf("step %d: %d keys, want %d", step, len(l), len(kept))
		}
		versions := 0
		for k, want := range kept {
			versions += len(want)
			if got := Get(l, k); !slices.Equal(got, want) || l[At(l, k)].Key != k {
				t.Fatalf("step %d: Get(%q): %.80v, want %.80v", step, k, got, want)
			}
		}
		if got, _ := Count(l); got != versions {
			t.Fatalf("step %d: Count: %d, want %d", step, got, versions)
		}
	}
	if full == 0 {
		t.Error("the index was never full")
	}
}

// TestPutAgain: P6.4, in whatever order keys are put, the index is the same; what is put and taken away leaves it as it was.
func TestPutAgain(t *testing.T) {
	base := []api.Entry{ent("a", one()...), ent("b", mark(2, 0)), ent("c", longChain(4)...)}
	for _, order := range [][]int{{0, 1, 2}, {0, 2, 1}, {1, 0, 2}, {1, 2, 0}, {2, 0, 1}, {2, 1, 0}} {
		var l []api.Entry
		for _, at := range order {
			l, _ = Put(l, base[at].Key, base[at].L)
		}
		if !Same(l, base) {
			t.Errorf("Put in the order %v: %v", order, l)
		}
		for _, at := range order {
			gone, e := Put(l, base[at].Key, nil)
			if len(gone) != 2 || len(Get(gone, base[at].Key)) != 0 || e != api.OK {
				t.Errorf("Put of none: %v, %d", gone, e)
			}
			if back, _ := Put(gone, base[at].Key, base[at].L); !Same(back, base) {
				t.Errorf("Put of %q again: %v", base[at].Key, back)
			}
		}
	}
}

// TestExamples: the chapter's examples.
func TestExamples(t *testing.T) {
	l, _ := Put(nil, "b", one())
	l, e := Put(l, "a", one())
	if !Same(l, []api.Entry{ent("a", one()...), ent("b", one()...)}) || e != api.OK {
		t.Errorf("Put of b, a: %v, %d", l, e)
	}
	if gone, e := Put(l, "b", nil); !Same(gone, l[:1]) || e != api.OK {
		t.Errorf("Put of no versions: %v, %d", gone, e)
	}
	if got := At([]api.Entry{ent("a", one()...), ent("c", one()...)}, "b"); got != 1 {
		t.Errorf("At(b) of a, c: %d", got)
	}
}
