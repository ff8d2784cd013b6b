package bucket

import (
	"fmt"
	"hash/crc32"
	"math"
	"slices"
	"strings"
	"testing"

	"cellarer/api"
)

// The document's limits, as numbers of their own.
const (
	mostID   = 281474976710655
	mostTime = 1099511627775
)

// brief is the beginning of how a value is told.
func brief(x any) string { return fmt.Sprintf("%.300s", fmt.Sprint(x)) }

// octetsOf is so many octets.
func octetsOf(n int) string { return strings.Repeat("d", n) }

// longKey is a key of 60 octets.
func longKey() string { return strings.Repeat("k", 60) }

// goodNames are a bucket's; each edge is there.
func goodNames() []string {
	return []string{"box", "abc", "a-b", "a--z", "000", "9-9", "zzz", "a0z9", strings.Repeat("n", 19), strings.Repeat("n", 20)}
}

// badNames are none's.
func badNames() []string {
	return []string{"", "a", "ab", "-ab", "ab-", "---", "Box", "a b", "a_b", "a.b", "a/b", "a`b", "a{b", "a:b", "\u00e9\u00e9", "box\x00", "\xffbox", strings.Repeat("n", 21), strings.Repeat("n", 100000)}
}

// badKeys are none.
func badKeys() []string {
	return []string{"", "\x1f", "\x7f", "a\x00", "\n", "\xff", "a\x1f", "\u00e9", longKey() + "k"}
}

// piece names a part by its octets.
func piece(n int, data string) api.Piece {
	return api.Piece{N: n, Tag: tagOf(data)}
}

// pieces names parts, all of them.
func pieces(l ...api.Part) []api.Piece {
	var all []api.Piece
	for _, p := range l {
		all = append(all, piece(p.N, p.Data))
	}
	return all
}

// tagOf is octets' tag, as the library has it.
func tagOf(s string) uint32 {
	return crc32.Checksum([]byte(s), crc32.MakeTable(crc32.Castagnoli))
}

// manyOf is the tag of octets' tags.
func manyOf(l ...string) string {
	octets := ""
	for _, s := range l {
		t := tagOf(s)
		octets += string([]byte{byte(t >> 24), byte(t >> 16), byte(t >> 8), byte(t)})
	}
	return fmt.Sprintf("%08x-%d", tagOf(octets), len(l))
}

// entry is an entry.
func entry(key string, l ...api.Version) api.Entry { return api.Entry{Key: key, L: l} }

// up is an upload.
func up(id uint64, key string, l ...api.Part) api.Upload { return api.Upload{ID: id, Key: key, L: l} }

// threeParts is some parts to be put together.
func threeParts() []api.Part {
	return []api.Part{{N: 1, Data: "first "}, {N: 2, Data: "second"}, {N: 1000, Data: "end"}}
}

// manyVersions is so many versions, the last one given to them being the ID id.
func manyVersions(n int, id uint64) []api.Version {
	var l []api.Version
	for i := range n {
		l = append(l, api.Version{ID: id - uint64(i), Data: octetsOf(i % 4), At: 5})
	}
	return l
}

// manyEntries is so many entries, k10, k11, .., of one version each; each has this ID, and this many octets.
func manyEntries(n int, id uint64, octets int) []api.Entry {
	var l []api.Entry
	for i := range n {
		l = append(l, entry(fmt.Sprintf("k%d", 10+i), api.Version{ID: id, Data: octetsOf(octets), At: 5}))
	}
	return l
}

// manyParts is so many parts, from the number first on, with this many octets each.
func manyParts(n, first, octets int) []api.Part {
	var l []api.Part
	for i := range n {
		l = append(l, api.Part{N: first + i, Data: octetsOf(octets)})
	}
	return l
}

// manyUploads is so many uploads, with the IDs 1, 2, ...
func manyUploads(n int) []api.Upload {
	var l []api.Upload
	for i := range n {
		l = append(l, up(uint64(i+1), "a", api.Part{N: 1, Data: "x"}))
	}
	return l
}

// off, on and held are buckets as they come about.
func off() api.Bucket {
	return api.Bucket{
		Name: "box", State: api.Off, Last: 7,
		L:  []api.Entry{entry("a", api.Version{Data: "of a", At: 3}), entry("c", api.Version{Data: "", At: 5})},
		Up: []api.Upload{up(3, "b", threeParts()...), up(7, "a")},
	}
}

func on() api.Bucket {
	return api.Bucket{
		Name: "box", State: api.On, Last: 9,
		L: []api.Entry{
			entry("a", api.Version{ID: 5, Data: "five", At: 6}, api.Version{Data: "zero", At: 6}, api.Version{ID: 2, Mark: true, At: 4}, api.Version{ID: 1, Data: "one", At: 0}),
			entry("b", api.Version{ID: 8, Mark: true, At: 7}),
			entry("c", api.Version{ID: 9, Mark: true, At: 8}, api.Version{ID: 4, Data: "four", At: 5}),
		},
		Up: []api.Upload{up(3, "a", threeParts()...), up(7, "d", api.Part{N: 1, Data: "four"}, api.Part{N: 2, Data: "second"}), up(9, "a")},
	}
}

func held() api.Bucket {
	b := on()
	b.State = api.Held
	b.L[1].L = []api.Version{{Mark: true, At: 7}, {ID: 8, Data: "eight", At: 7}}
	return b
}

// numbered: has one of an entry's versions a number?
func numbered(e api.Entry) bool {
	return slices.ContainsFunc(e.L, func(v api.Version) bool { return v.ID != 0 })
}

// inStates is the bucket in each state that its versions let it have.
func inStates(b api.Bucket) []api.Bucket {
	var all []api.Bucket
	for _, state := range []int{api.Off, api.On, api.Held} {
		b.State = state
		if state != api.Off || !slices.ContainsFunc(b.L, numbered) {
			all = append(all, b)
		}
	}
	return all
}

// fullBuckets are at the limits of keys, versions, parts, uploads and numbers.
func fullBuckets() []api.Bucket {
	var all []api.Bucket
	for _, b := range []api.Bucket{
		{Name: "box"}, {Name: "box", L: []api.Entry{}, Up: []api.Upload{}}, {Name: "box", Last: 4}, {Name: "box", Last: mostID}, {Name: "box", Last: mostID - 1},
		{Name: "box", L: []api.Entry{entry("a", api.Version{Data: "x", At: mostTime})}},
		{Name: "box", Last: 40, L: []api.Entry{entry("a", manyVersions(20, 30)...)}},
		{Name: "box", Last: 30, L: []api.Entry{entry("a", append([]api.Version{{At: 5, Data: "zero"}}, manyVersions(19, 30)...)...)}},
		{Name: "box", Last: 30, L: []api.Entry{entry("a", append(manyVersions(19, 30), api.Version{At: 5, Mark: true})...)}},
		{Name: "box", Last: mostID, L: []api.Entry{entry("a", manyVersions(20, mostID)...)}, Up: []api.Upload{up(mostID, "a", threeParts()...)}},
		{Name: "box", Last: 3, L: manyEntries(59, 0, 1), Up: []api.Upload{up(3, "a", threeParts()...)}}, {Name: "box", Last: 3, L: manyEntries(60, 0, 1), Up: []api.Upload{up(3, "a", threeParts()...)}}, {Name: "box", L: manyEntries(60, 1, 0), Last: 1},
		{Name: "box", Last: 9, Up: manyUploads(9)}, {Name: "box", Last: 12, Up: manyUploads(10)},
		{Name: "box", Last: 3, Up: []api.Upload{up(3, longKey(), manyParts(30, 1, 66)...)}}, {Name: "box", Last: 3, Up: []api.Upload{up(3, "a", manyParts(30, 1, 67)...)}}, {Name: "box", Last: 3, Up: []api.Upload{up(3, "a", manyParts(29, 900, 10)...)}},
	} {
		all = append(all, inStates(b)...)
	}
	return all
}

// largeBuckets have as many octets as there may be, or a few less.
func largeBuckets() []api.Bucket {
	var all []api.Bucket
	for _, b := range []api.Bucket{
		{Name: "box", L: manyEntries(10, 0, 2000)},
		{Name: "box", L: manyEntries(10, 0, 1999)},
		{Name: "box", L: append([]api.Entry{entry("a", api.Version{Data: octetsOf(1990), At: 5})}, manyEntries(9, 0, 2000)...), Last: 3, Up: []api.Upload{up(3, "a", api.Part{N: 1, Data: "0123456789"})}},
		{Name: "box", Last: 3, Up: []api.Upload{up(3, "a", manyParts(10, 1, 2000)...)}},
		{Name: "box", Last: 3, L: manyEntries(9, 1, 2000), Up: []api.Upload{up(2, "a", api.Part{N: 1, Data: octetsOf(1000)}, api.Part{N: 2, Data: octetsOf(989)}), up(3, "b", api.Part{N: 1, Data: "0123456789"})}},
	} {
		all = append(all, inStates(b)...)
	}
	return all
}

// goodBuckets may be; each edge is there.
func goodBuckets() []api.Bucket {
	all := []api.Bucket{off(), on(), held()}
	for _, s := range goodNames() {
		all = append(all, api.Bucket{Name: s})
	}
	// An upload may have a version's number, and a version that of another key's.
	all = append(all, api.Bucket{Name: "box", State: api.On, Last: 2, L: []api.Entry{entry("a", api.Version{ID: 2}), entry("b", api.Version{ID: 2}, api.Version{ID: 1})}, Up: []api.Upload{up(1, "a"), up(2, "a")}})
	return slices.Concat(all, fullBuckets(), largeBuckets())
}

// badBuckets may not be, each for one reason.
func badBuckets() []api.Bucket {
	var all []api.Bucket
	from := func(b api.Bucket, spoil func(b *api.Bucket)) {
		b = deep(b)
		spoil(&b)
		all = append(all, b)
	}
	for _, b := range []api.Bucket{off(), on(), held(), {Name: "box", State: api.On}} {
		for _, s := range badNames() {
			from(b, func(b *api.Bucket) { b.Name = s })
		}
		for _, n := range []int{-1, 3, 4, 1 << 32, 1<<32 + 1, math.MinInt, math.MaxInt} {
			from(b, func(b *api.Bucket) { b.State = n })
		}
		for _, n := range []uint64{mostID + 1, mostID + 2, 1 << 63, math.MaxUint64} {
			from(b, func(b *api.Bucket) { b.Last = n })
		}
		from(b, func(b *api.Bucket) { b.Up = append(b.Up, up(b.Last+1, "a")) })
		from(b, func(b *api.Bucket) { b.Up = append(b.Up, up(mostID, "a")) })
		from(b, func(b *api.Bucket) { b.Up = []api.Upload{up(0, "a")} })
		from(b, func(b *api.Bucket) { b.Up = []api.Upload{up(1, "")} })
		from(b, func(b *api.Bucket) { b.Up = []api.Upload{up(1, "a", api.Part{})} })
		from(b, func(b *api.Bucket) { b.Last, b.Up = 20, manyUploads(11) })
		from(b, func(b *api.Bucket) { b.Last, b.Up = 3, []api.Upload{up(2, "a"), up(2, "a")}; b.L = nil })
		from(b, func(b *api.Bucket) { b.Last, b.Up = 3, []api.Upload{up(3, "a"), up(2, "a")}; b.L = nil })
		from(b, func(b *api.Bucket) { b.L = []api.Entry{entry("b", api.Version{}), entry("a", api.Version{})} })
		from(b, func(b *api.Bucket) { b.L = []api.Entry{entry("a", api.Version{}), entry("a", api.Version{})} })
		from(b, func(b *api.Bucket) { b.L = []api.Entry{entry("a")} })
		from(b, func(b *api.Bucket) { b.L = []api.Entry{entry("", api.Version{})} })
		from(b, func(b *api.Bucket) { b.L = []api.Entry{entry("a\x7f", api.Version{})} })
		from(b, func(b *api.Bucket) { b.L = manyEntries(61, 0, 1) })
		from(b, func(b *api.Bucket) { b.L = []api.Entry{entry("a", api.Version{}, api.Version{})} })
		from(b, func(b *api.Bucket) { b.L = []api.Entry{entry("a", api.Version{At: -1})} })
		from(b, func(b *api.Bucket) { b.L = []api.Entry{entry("a", api.Version{At: mostTime + 1})} })
		from(b, func(b *api.Bucket) { b.L = []api.Entry{entry("a", api.Version{Data: octetsOf(2001)})} })
		from(b, func(b *api.Bucket) { b.L = []api.Entry{entry("a", api.Version{Data: "x", Mark: true})} })
		from(b, func(b *api.Bucket) {
			b.L = append(manyEntries(10, 0, 2000), entry("z", api.Version{Data: "x"}))
			b.Up = nil
		})
		from(b, func(b *api.Bucket) { b.L = manyEntries(11, 0, 2000) })
		from(b, func(b *api.Bucket) {
			b.Last, b.Up = 9, []api.Upload{up(1, "a", append(manyParts(10, 1, 2000), api.Part{N: 11, Data: "x"})...)}
			b.L = nil
		})
		from(b, func(b *api.Bucket) {
			b.L, b.Last, b.Up = manyEntries(9, 0, 2000), 9, []api.Upload{up(1, "a", api.Part{N: 1, Data: octetsOf(1999)}), up(2, "a", api.Part{N: 1, Data: "xx"})}
		})
		from(b, func(b *api.Bucket) { b.L = append(b.L, entry("z", api.Version{ID: b.Last + 1, At: 9})) })
		from(b, func(b *api.Bucket) { b.L = append(b.L, entry("z", api.Version{ID: mostID, At: 9})) })
	}
	for _, b := range []api.Bucket{on(), held()} {
		from(b, func(b *api.Bucket) { b.State = api.Off })
		from(b, func(b *api.Bucket) { b.Last = 8 })
		from(b, func(b *api.Bucket) { b.Last = 0 })
		from(b, func(b *api.Bucket) { b.L = slices.Insert(b.L, 1, entry("aa", manyVersions(21, 9)...)) })
		from(b, func(b *api.Bucket) { b.L[0].L = append(b.L[0].L, api.Version{ID: 1}) })
	}
	from(off(), func(b *api.Bucket) { b.L[1].L[0].ID = 1 })
	from(off(), func(b *api.Bucket) { b.L[0].L = append(b.L[0].L, api.Version{ID: 1}) })
	from(off(), func(b *api.Bucket) { b.Last = 6 })
	return append(all, api.Bucket{}, api.Bucket{L: make([]api.Entry, 100000)}, api.Bucket{Name: "box", L: make([]api.Entry, 100000)}, api.Bucket{Name: "box", Up: make([]api.Upload, 100000)})
}

// keyMayBe: may a key be, as the document's words say it?
func keyMayBe(s string) bool {
	for i := range len(s) {
		if s[i] < 32 || s[i] > 126 {
			return false
		}
	}
	return len(s) >= 1 && len(s) <= 60
}

func nameMayBe(s string) bool {
	for i := range len(s) {
		if !strings.Contains("abcdefghijklmnopqrstuvwxyz0123456789-", s[i:i+1]) {
			return false
		}
	}
	return len(s) >= 3 && len(s) <= 20 && s[0] != '-' && s[len(s)-1] != '-'
}

func versionMayBe(v api.Version) bool {
	return v.ID <= mostID && len(v.Data) <= 2000 && (!v.Mark || v.Data == "") && v.At >= 0 && v.At <= mostTime
}

// chainMayBe: may versions be? Each two are held against each other.
func chainMayBe(l []api.Version) bool {
	if len(l) > 20 {
		return false
	}
	for i, v := range l {
		if !versionMayBe(v) {
			return false
		}
		for _, x := range l[i+1:] {
			if v.ID == x.ID || v.ID != 0 && x.ID > v.ID || x.At > v.At {
				return false
			}
		}
	}
	return true
}

func indexMayBe(l []api.Entry) bool {
	if len(l) > 60 {
		return false
	}
	for i, e := range l {
		if !keyMayBe(e.Key) || len(e.L) == 0 || !chainMayBe(e.L) || slices.ContainsFunc(l[i+1:], func(x api.Entry) bool { return x.Key <= e.Key }) {
			return false
		}
	}
	return true
}

func partMayBe(p api.Part) bool { return p.N >= 1 && p.N <= 1000 && len(p.Data) <= 2000 }

func uploadsMayBe(l []api.Upload) bool {
	if len(l) > 10 {
		return false
	}
	for i, u := range l {
		if u.ID < 1 || u.ID > mostID || !keyMayBe(u.Key) || len(u.L) > 30 || slices.ContainsFunc(l[i+1:], func(x api.Upload) bool { return x.ID <= u.ID }) {
			return false
		}
		for k, p := range u.L {
			if !partMayBe(p) || slices.ContainsFunc(u.L[k+1:], func(x api.Part) bool { return x.N <= p.N }) {
				return false
			}
		}
	}
	return true
}

// size is how many octets all versions and parts have.
func size(b api.Bucket) int {
	n := 0
	for _, e := range b.L {
		for _, v := range e.L {
			n += len(v.Data)
		}
	}
	for _, u := range b.Up {
		for _, p := range u.L {
			n += len(p.Data)
		}
	}
	return n
}

// mayBe: may a bucket be, as the document's words say it?
func mayBe(b api.Bucket) bool {
	if !nameMayBe(b.Name) || b.State < 0 || b.State > 2 || b.Last > mostID || !indexMayBe(b.L) || !uploadsMayBe(b.Up) {
		return false
	}
	for _, e := range b.L {
		for _, v := range e.L {
			if v.ID > b.Last || b.State == 0 && v.ID != 0 {
				return false
			}
		}
	}
	for _, u := range b.Up {
		if u.ID > b.Last {
			return false
		}
	}
	return size(b) <= 20000
}

// deep is the same bucket in memory of its own.
func deep(b api.Bucket) api.Bucket {
	var l []api.Entry
	for _, e := range b.L {
		l = append(l, api.Entry{Key: e.Key, L: slices.Clone(e.L)})
	}
	var ups []api.Upload
	for _, u := range b.Up {
		ups = append(ups, api.Upload{ID: u.ID, Key: u.Key, L: slices.Clone(u.L)})
	}
	return api.Bucket{Name: b.Name, State: b.State, L: l, Up: ups, Last: b.Last}
}

// same: the same buckets, a nil list as one without elements?
func same(a, b api.Bucket) bool {
	return a.Name == b.Name && a.State == b.State && a.Last == b.Last &&
		slices.EqualFunc(a.L, b.L, func(x, y api.Entry) bool { return x.Key == y.Key && slices.Equal(x.L, y.L) }) &&
		slices.EqualFunc(a.Up, b.Up, func(x, y api.Upload) bool { return x.ID == y.ID && x.Key == y.Key && slices.Equal(x.L, y.L) })
}

// answer is all that a call may answer.
type answer struct {
	b    api.Bucket
	id   uint64
	tag  uint32
	text string
	v    api.Version
	e    api.Errno
}

func sameAnswer(x, y answer) bool {
	return same(x.b, y.b) && x.id == y.id && x.tag == y.tag && x.text == y.text && x.v == y.v && x.e == y.e
}

// call is a call, what it answers, and what the document's words say that it answers.
type call struct {
	name string
	got  func(b api.Bucket) answer
	want func(b api.Bucket) answer
}

// changed is the answer of a call that changes a bucket: with an error it is as it is, and all else is zero.
func changed(b api.Bucket, do func(b *api.Bucket, a *answer) api.Errno) answer {
	if !mayBe(b) {
		return answer{b: b, e: api.ErrArg}
	}
	own := deep(b)
	a := answer{}
	if e := do(&own, &a); e != api.OK {
		return answer{b: b, e: e}
	}
	if size(own) > 20000 {
		return answer{b: b, e: api.ErrLarge}
	}
	a.b = own
	return a
}

// versionsOf is a key's.
func versionsOf(b api.Bucket, key string) []api.Version {
	for _, e := range b.L {
		if e.Key == key {
			return e.L
		}
	}
	return nil
}

// setKey lets a key have versions: its entry is laid behind all others, and they are sorted.
func setKey(b *api.Bucket, key string, l []api.Version) api.Errno {
	b.L = slices.DeleteFunc(b.L, func(e api.Entry) bool { return e.Key == key })
	if len(l) > 0 {
		b.L = append(b.L, entry(key, l...))
	}
	slices.SortFunc(b.L, func(x, y api.Entry) int { return strings.Compare(x.Key, y.Key) })
	if len(b.L) > 60 {
		return api.ErrLarge
	}
	return api.OK
}

// take is versions without the one of an ID.
func take(l []api.Version, id uint64) []api.Version {
	return slices.DeleteFunc(slices.Clone(l), func(v api.Version) bool { return v.ID == id })
}

// layVersion lays a version at a key, as the state has it.
func layVersion(b *api.Bucket, a *answer, key string, v api.Version) api.Errno {
	if b.State == api.On && b.Last == mostID {
		return api.ErrLarge
	}
	l := versionsOf(*b, key)
	if !versionMayBe(v) || len(l) > 0 && v.At < l[0].At {
		return api.ErrArg
	}
	if b.State == api.On {
		b.Last++
		v.ID, a.id = b.Last, b.Last
	} else {
		l = take(l, 0)
	}
	if len(l) == 20 {
		return api.ErrLarge
	}
	return setKey(b, key, append([]api.Version{v}, l...))
}

func wantTurn(b api.Bucket, state int) answer {
	return changed(b, func(b *api.Bucket, a *answer) api.Errno {
		switch {
		case state < 0 || state > 2:
			return api.ErrArg
		case state == 0 && b.State != 0:
			return api.ErrState
		}
		b.State = state
		return api.OK
	})
}

func wantPut(b api.Bucket, key, data string, at int) answer {
	return changed(b, func(b *api.Bucket, a *answer) api.Errno {
		if !keyMayBe(key) {
			return api.ErrArg
		}
		return layVersion(b, a, key, api.Version{Data: data, At: at})
	})
}

func wantDelete(b api.Bucket, key string, at int) answer {
	if b.State == api.Off {
		return wantDrop(b, key, 0)
	}
	return changed(b, func(b *api.Bucket, a *answer) api.Errno {
		if !keyMayBe(key) {
			return api.ErrArg
		}
		return layVersion(b, a, key, api.Version{Mark: true, At: at})
	})
}

func wantDrop(b api.Bucket, key string, id uint64) answer {
	return changed(b, func(b *api.Bucket, a *answer) api.Errno {
		if !keyMayBe(key) {
			return api.ErrArg
		}
		l := versionsOf(*b, key)
		left := take(l, id)
		if len(left) == len(l) {
			return api.ErrNone
		}
		return setKey(b, key, left)
	})
}

// wantVersion is what Get and Find answer: the first version that is meant.
func wantVersion(b api.Bucket, key string, meant func(v api.Version) bool) answer {
	if !mayBe(b) || !keyMayBe(key) {
		return answer{e: api.ErrArg}
	}
	for _, v := range versionsOf(b, key) {
		if meant(v) && v.Mark {
			return answer{v: v, e: api.ErrMark}
		}
		if meant(v) {
			return answer{v: v}
		}
	}
	return answer{e: api.ErrNone}
}

func wantBegin(b api.Bucket, key string) answer {
	return changed(b, func(b *api.Bucket, a *answer) api.Errno {
		if !keyMayBe(key) {
			return api.ErrArg
		}
		if b.Last == mostID || len(b.Up) == 10 {
			return api.ErrLarge
		}
		b.Last++
		a.id = b.Last
		b.Up = append(b.Up, up(b.Last, key))
		return api.OK
	})
}

// upload is where the upload of an ID is; below 0, if there is none.
func upload(b *api.Bucket, id uint64) int {
	return slices.IndexFunc(b.Up, func(u api.Upload) bool { return u.ID == id })
}

func wantLay(b api.Bucket, id uint64, p api.Part) answer {
	return changed(b, func(b *api.Bucket, a *answer) api.Errno {
		if !partMayBe(p) {
			return api.ErrArg
		}
		at := upload(b, id)
		if at < 0 {
			return api.ErrNone
		}
		l := append(slices.DeleteFunc(b.Up[at].L, func(x api.Part) bool { return x.N == p.N }), p)
		slices.SortFunc(l, func(x, y api.Part) int { return x.N - y.N })
		if len(l) > 30 {
			return api.ErrLarge
		}
		b.Up[at].L, a.tag = l, tagOf(p.Data)
		return api.OK
	})
}

func wantAbort(b api.Bucket, id uint64) answer {
	return changed(b, func(b *api.Bucket, a *answer) api.Errno {
		at := upload(b, id)
		if at < 0 {
			return api.ErrNone
		}
		b.Up = slices.Delete(b.Up, at, at+1)
		return api.OK
	})
}

// together is the octets that pieces name of an upload, part by part.
func together(u api.Upload, l []api.Piece) ([]string, api.Errno) {
	var order, none, short bool
	var all []string
	for i, x := range l {
		at := slices.IndexFunc(u.L, func(p api.Part) bool { return p.N == x.N })
		s := ""
		if at >= 0 {
			s = u.L[at].Data
		}
		order = order || i > 0 && l[i-1].N >= x.N
		none = none || at < 0 || tagOf(s) != x.Tag
		short = short || i < len(l)-1 && len(s) < 5
		all = append(all, s)
	}
	switch {
	case len(l) == 0:
		return nil, api.ErrArg
	case order:
		return nil, api.ErrOrder
	case none:
		return nil, api.ErrNone
	case short:
		return nil, api.ErrShort
	case len(strings.Join(all, "")) > 2000:
		return nil, api.ErrLarge
	}
	return all, api.OK
}

func wantWhole(b api.Bucket, id uint64, l []api.Piece, at int) answer {
	return changed(b, func(b *api.Bucket, a *answer) api.Errno {
		i := upload(b, id)
		if i < 0 {
			return api.ErrNone
		}
		key := b.Up[i].Key
		all, e := together(b.Up[i], l)
		if e != api.OK {
			return e
		}
		b.Up = slices.Delete(b.Up, i, i+1)
		a.text = manyOf(all...)
		return layVersion(b, a, key, api.Version{Data: strings.Join(all, ""), At: at})
	})
}

func callTurn(state int) call {
	return call{fmt.Sprintf("Turn(%d)", state), func(b api.Bucket) (a answer) {
		a.b, a.e = Turn(b, state)
		return a
	}, func(b api.Bucket) answer { return wantTurn(b, state) }}
}

func callPut(key, data string, at int) call {
	return call{fmt.Sprintf("Put(%.80q, %.20q of %d, %d)", key, data, len(data), at), func(b api.Bucket) (a answer) {
		a.b, a.id, a.e = Put(b, key, data, at)
		return a
	}, func(b api.Bucket) answer { return wantPut(b, key, data, at) }}
}

func callDelete(key string, at int) call {
	return call{fmt.Sprintf("Delete(%.80q, %d)", key, at), func(b api.Bucket) (a answer) {
		a.b, a.id, a.e = Delete(b, key, at)
		return a
	}, func(b api.Bucket) answer { return wantDelete(b, key, at) }}
}

func callDrop(key string, id uint64) call {
	return call{fmt.Sprintf("Drop(%.80q, %d)", key, id), func(b api.Bucket) (a answer) {
		a.b, a.e = Drop(b, key, id)
		return a
	}, func(b api.Bucket) answer { return wantDrop(b, key, id) }}
}

func callGet(key string) call {
	return call{fmt.Sprintf("Get(%.80q)", key), func(b api.Bucket) (a answer) {
		a.v, a.e = Get(b, key)
		return a
	}, func(b api.Bucket) answer { return wantVersion(b, key, func(api.Version) bool { return true }) }}
}

func callFind(key string, id uint64) call {
	return call{fmt.Sprintf("Find(%.80q, %d)", key, id), func(b api.Bucket) (a answer) {
		a.v, a.e = Find(b, key, id)
		return a
	}, func(b api.Bucket) answer {
		return wantVersion(b, key, func(v api.Version) bool { return v.ID == id })
	}}
}

func callBegin(key string) call {
	return call{fmt.Sprintf("Begin(%.80q)", key), func(b api.Bucket) (a answer) {
		a.b, a.id, a.e = Begin(b, key)
		return a
	}, func(b api.Bucket) answer { return wantBegin(b, key) }}
}

func callLay(id uint64, p api.Part) call {
	return call{fmt.Sprintf("Lay(%d, %s)", id, brief(p)), func(b api.Bucket) (a answer) {
		a.b, a.tag, a.e = Lay(b, id, p)
		return a
	}, func(b api.Bucket) answer { return wantLay(b, id, p) }}
}

func callAbort(id uint64) call {
	return call{fmt.Sprintf("Abort(%d)", id), func(b api.Bucket) (a answer) {
		a.b, a.e = Abort(b, id)
		return a
	}, func(b api.Bucket) answer { return wantAbort(b, id) }}
}

func callWhole(id uint64, l []api.Piece, at int) call {
	return call{fmt.Sprintf("Whole(%d, %s, %d)", id, brief(l), at), func(b api.Bucket) (a answer) {
		a.b, a.id, a.text, a.e = Whole(b, id, l, at)
		return a
	}, func(b api.Bucket) answer { return wantWhole(b, id, l, at) }}
}

// hold holds calls at buckets against the document's words; what is handed in stays.
func hold(t *testing.T, all []api.Bucket, calls []call) {
	t.Helper()
	for i, b := range all {
		was := deep(b)
		for _, c := range calls {
			got, want := c.got(b), c.want(b)
			if !sameAnswer(got, want) {
				t.Fatalf("bucket %d, %s: %s: %s, want %s", i, brief(b), c.name, brief(got), brief(want))
			}
			if !same(b, was) {
				t.Fatalf("bucket %d: %s: %s is %s now", i, c.name, brief(was), brief(b))
			}
			if got.e == api.OK && !same(got.b, api.Bucket{}) && (!mayBe(got.b) || Check(got.b) != api.OK) {
				t.Fatalf("bucket %d: %s: may not be: %s", i, c.name, brief(got.b))
			}
		}
	}
}

// someKeys are keys that are there, that are not, and that may not be.
func someKeys() []string {
	return append([]string{"a", "b", "c", "d", " ", "~", "k09", "k10", "k19", "k68", "k69", "k70", longKey()}, badKeys()...)
}

// someIDs are IDs that are there, and that are not.
func someIDs() []uint64 {
	return []uint64{0, 1, 2, 3, 4, 5, 7, 8, 9, 10, 11, 12, 30, 31, 1<<32 + 3, mostID - 1, mostID, mostID + 1, math.MaxUint64}
}

// someTimes are ahead of, at, and behind those of versions, and none.
func someTimes() []int {
	return []int{math.MinInt, -1, 0, 3, 4, 5, 6, 7, 8, 9, mostTime - 1, mostTime, mostTime + 1, math.MaxInt}
}

// TestCheck: P9.1, buckets that may be, and those that may not, each for one reason.
func TestCheck(t *testing.T) {
	for i, b := range goodBuckets() {
		if got := Check(b); got != api.OK || !mayBe(b) {
			t.Errorf("Check of good bucket %d, %s: %d", i, brief(b), got)
		}
	}
	for i, b := range badBuckets() {
		if got := Check(b); got != api.ErrArg || mayBe(b) {
			t.Errorf("Check of bad bucket %d, %s: %d", i, brief(b), got)
		}
	}
}

// TestBadBucketsAreRefused: P9.1 to P9.4, of a bucket that may not be, ahead of all other errors; it is as it is.
func TestBadBucketsAreRefused(t *testing.T) {
	calls := []call{
		callTurn(api.Off), callTurn(api.On), callTurn(9), callPut("a", "x", 9), callPut("z", "", mostTime), callPut("a", octetsOf(2000), 9), callDelete("a", 9), callDelete("none", 9), callDrop("a", 0), callDrop("none", 5), callDrop("a", 1),
		callGet("a"), callGet("none"), callGet("b"), callFind("a", 0), callFind("b", 8), callFind("none", 9), callBegin("a"), callBegin(""), callLay(1, api.Part{N: 1}), callLay(99, api.Part{N: 1}), callLay(3, api.Part{N: 1, Data: octetsOf(2000)}), callAbort(1), callAbort(3), callAbort(99),
		callWhole(99, nil, 9), callWhole(3, pieces(threeParts()...), 9), callWhole(3, []api.Piece{piece(9, "")}, 9),
	}
	hold(t, badBuckets(), calls)
	for i, b := range badBuckets() {
		for _, c := range calls {
			if got := c.got(b); got.e != api.ErrArg || got.id != 0 || got.tag != 0 || got.text != "" || got.v != (api.Version{}) {
				t.Errorf("bad bucket %d: %s: %s", i, c.name, brief(got))
			}
		}
	}
}

// TestNew: P9.1, each name, and what is none.
func TestNew(t *testing.T) {
	for _, s := range goodNames() {
		if b, e := New(s); !same(b, api.Bucket{Name: s, State: api.Off}) || e != api.OK || Check(b) != api.OK || !Empty(b) {
			t.Errorf("New(%q): %v, %d", s, b, e)
		}
	}
	for _, s := range badNames() {
		if b, e := New(s); !same(b, api.Bucket{}) || e != api.ErrArg {
			t.Errorf("New(%.80q): %v, %d", s, b, e)
		}
	}
}

// TestEmpty: P9.1, versions, Marks, and uploads without parts count; numbers that were given out do not.
func TestEmpty(t *testing.T) {
	for i, c := range []struct {
		b    api.Bucket
		want bool
	}{
		{api.Bucket{Name: "box"}, true}, {api.Bucket{Name: "box", State: api.Held, Last: mostID, L: []api.Entry{}, Up: []api.Upload{}}, true}, {api.Bucket{}, true},
		{off(), false}, {on(), false}, {held(), false},
		{api.Bucket{Name: "box", L: []api.Entry{entry("a", api.Version{})}}, false}, {api.Bucket{Name: "box", State: api.On, Last: 1, L: []api.Entry{entry("a", api.Version{ID: 1, Mark: true})}}, false},
		{api.Bucket{Name: "box", Last: 1, Up: []api.Upload{up(1, "a")}}, false}, {api.Bucket{Name: "box", Last: 1, Up: []api.Upload{up(1, "a", api.Part{N: 1})}}, false},
		{api.Bucket{Up: []api.Upload{{}}}, false}, {api.Bucket{L: []api.Entry{{L: []api.Version{{}}}}}, false}, {api.Bucket{Name: "box", L: []api.Entry{entry("a")}}, true},
	} {
		if got := Empty(c.b); got != c.want {
			t.Errorf("Empty %d: %v", i, got)
		}
	}
	for i, b := range goodBuckets() {
		if got := Empty(b); got != (len(b.L) == 0 && len(b.Up) == 0) {
			t.Errorf("Empty of good bucket %d: %v", i, got)
		}
	}
}

// TestSame: P9.1, each part of one counts, also of those that may not be.
func TestSame(t *testing.T) {
	all := append(goodBuckets(), badBuckets()...)
	for i, a := range all {
		if !Same(a, deep(a)) {
			t.Errorf("not the same as itself: %s", brief(a))
		}
		for _, b := range []api.Bucket{all[0], all[i*7%len(all)], all[(i+1)%len(all)], all[len(all)-1-i]} {
			if got := Same(a, b); got != same(a, b) || Same(b, a) != got {
				t.Errorf("Same(%s, %s): %v", brief(a), brief(b), got)
			}
		}
	}
	for i, change := range []func(b *api.Bucket){
		func(b *api.Bucket) { b.Name = "bix" },
		func(b *api.Bucket) { b.State = api.Held },
		func(b *api.Bucket) { b.Last++ },
		func(b *api.Bucket) { b.Last += 1 << 32 },
		func(b *api.Bucket) { b.L[2].Key = "d" },
		func(b *api.Bucket) { b.L[0].L[0].ID++ },
		func(b *api.Bucket) { b.L[0].L[3].Data = "ONE" },
		func(b *api.Bucket) { b.L[1].L[0].Mark = false },
		func(b *api.Bucket) { b.L[2].L[1].At-- },
		func(b *api.Bucket) { b.L[0].L = b.L[0].L[:3] },
		func(b *api.Bucket) { b.L = b.L[:2] },
		func(b *api.Bucket) { b.L = nil },
		func(b *api.Bucket) { b.Up[0].ID-- },
		func(b *api.Bucket) { b.Up[2].Key = "b" },
		func(b *api.Bucket) { b.Up[0].L[1].N++ },
		func(b *api.Bucket) { b.Up[1].L[1].Data = "Second" },
		func(b *api.Bucket) { b.Up[1].L = b.Up[1].L[:1] },
		func(b *api.Bucket) { b.Up = b.Up[:2] },
		func(b *api.Bucket) { b.Up = nil },
	} {
		other := on()
		change(&other)
		if Same(on(), other) || Same(other, on()) {
			t.Errorf("Same %d: %s", i, brief(other))
		}
	}
	if !Same(api.Bucket{Name: "box"}, api.Bucket{Name: "box", L: []api.Entry{}, Up: []api.Upload{}}) {
		t.Error("a nil list isn't one without elements")
	}
}

// TestTurn: P9.1, from each state to each, and to none.
func TestTurn(t *testing.T) {
	var calls []call
	for _, state := range []int{api.Off, api.On, api.Held, -1, 3, 4, 1 << 32, 1<<32 + 1, math.MinInt, math.MaxInt} {
		calls = append(calls, callTurn(state))
	}
	hold(t, append(goodBuckets(), badBuckets()...), calls)
	for i, c := range []struct {
		from, to int
		want     api.Errno
	}{
		{api.Off, api.Off, api.OK}, {api.Off, api.On, api.OK}, {api.Off, api.Held, api.OK}, {api.On, api.On, api.OK}, {api.On, api.Held, api.OK}, {api.Held, api.Held, api.OK}, {api.Held, api.On, api.OK},
		{api.On, api.Off, api.ErrState}, {api.Held, api.Off, api.ErrState}, {api.Off, 3, api.ErrArg}, {api.On, -1, api.ErrArg}, {api.Held, 3, api.ErrArg},
	} {
		b := api.Bucket{Name: "box", State: c.from, Last: 4}
		want := b
		if c.want == api.OK {
			want.State = c.to
		}
		if got, e := Turn(b, c.to); !same(got, want) || e != c.want {
			t.Errorf("Turn %d: %v, %d", i, got, e)
		}
	}
}

// TestPut: P9.2, at all buckets, keys, sizes and times.
func TestPut(t *testing.T) {
	var calls []call
	for _, key := range someKeys() {
		for _, data := range []string{"", "x", "\x00\xff\n", octetsOf(10), octetsOf(11), octetsOf(1999), octetsOf(2000), octetsOf(2001)} {
			calls = append(calls, callPut(key, data, 9))
		}
	}
	for _, at := range someTimes() {
		for _, key := range []string{"a", "c", "k10", "k69", "new", ""} {
			calls = append(calls, callPut(key, "data", at), callPut(key, octetsOf(2001), at))
		}
	}
	hold(t, goodBuckets(), calls)
}

// TestPutByHand: P9.2, a version of each state.
func TestPutByHand(t *testing.T) {
	b, id, e := Put(off(), "a", "new", 3)
	if want := []api.Entry{entry("a", api.Version{Data: "new", At: 3}), off().L[1]}; id != 0 || e != api.OK || !same(b, api.Bucket{Name: "box", State: api.Off, L: want, Up: off().Up, Last: 7}) {
		t.Errorf("Put with Off: %v, %d, %d", b, id, e)
	}
	b, id, e = Put(on(), "b", "new", 7)
	want := on()
	want.Last, want.L[1].L = 10, []api.Version{{ID: 10, Data: "new", At: 7}, {ID: 8, Mark: true, At: 7}}
	if id != 10 || e != api.OK || !same(b, want) {
		t.Errorf("Put with On: %v, %d, %d", b, id, e)
	}
	b, id, e = Put(held(), "a", "new", 9)
	want = held()
	want.L[0].L = []api.Version{{Data: "new", At: 9}, {ID: 5, Data: "five", At: 6}, {ID: 2, Mark: true, At: 4}, {ID: 1, Data: "one"}}
	if id != 0 || e != api.OK || !same(b, want) {
		t.Errorf("Put with Held: %v, %d, %d", b, id, e)
	}
}

// refusal is a call that is refused.
type refusal struct {
	b    api.Bucket
	c    call
	want api.Errno
}

// refused: is each of these refused so, with the bucket as it is, and all else zero?
func refused(t *testing.T, all []refusal) {
	t.Helper()
	for i, r := range all {
		if got := r.c.got(r.b); got.e != r.want || !same(got.b, r.b) || got.id != 0 || got.tag != 0 || got.text != "" {
			t.Errorf("%d: %s: %s, want %d", i, r.c.name, brief(got), r.want)
		}
	}
}

// filled is a bucket of a state with 20 versions of a, 60 keys, and as many octets as there may be.
func filled(state int) api.Bucket {
	b := api.Bucket{Name: "box", State: state, Last: 60, L: manyEntries(59, 0, 0)}
	for i := range 10 {
		b.L[i].L[0].Data = octetsOf(1996)
	}
	b.L = append([]api.Entry{entry("a", manyVersions(20, 50)...)}, b.L...)
	b.L[11].L[0].Data = octetsOf(20000 - size(b))
	return b
}

// withLast is the bucket whose last number is this.
func withLast(b api.Bucket, last uint64) api.Bucket {
	b.Last = last
	return b
}

// TestPutRefused: P9.2, each error of Put and Delete, ahead of those that are named behind it.
func TestPutRefused(t *testing.T) {
	for _, state := range []int{api.On, api.Held} {
		b, late := filled(state), octetsOf(2001)
		if !mayBe(b) || size(b) != 20000 || len(b.L) != 60 {
			t.Fatalf("a bucket that isn't full: %s", brief(b))
		}
		refused(t, []refusal{
			{b, callPut("", "x", 9), api.ErrArg}, {b, callPut("a", late, 9), api.ErrArg}, {b, callPut("new", late, 9), api.ErrArg}, {b, callPut("a", "x", 4), api.ErrArg}, {b, callPut("new", "x", -1), api.ErrArg}, {b, callPut("k10", "x", 4), api.ErrArg},
			{b, callPut("a", "", 9), api.ErrLarge}, {b, callPut("new", "", 9), api.ErrLarge},
			{b, callDelete("", 9), api.ErrArg}, {b, callDelete("a", 4), api.ErrArg}, {b, callDelete("new", -1), api.ErrArg}, {b, callDelete("new", mostTime+1), api.ErrArg}, {b, callDelete("a", 9), api.ErrLarge}, {b, callDelete("new", 9), api.ErrLarge},
		})
	}
	b := withLast(on(), mostID)
	refused(t, []refusal{
		{b, callPut("", "x", 9), api.ErrArg}, {b, callPut("a", "x", 9), api.ErrLarge}, {b, callPut("a", octetsOf(2001), 9), api.ErrLarge}, {b, callPut("a", "x", 0), api.ErrLarge}, {b, callPut("new", "x", -1), api.ErrLarge},
		{b, callDelete("", 9), api.ErrArg}, {b, callDelete("a", 9), api.ErrLarge}, {b, callDelete("a", 0), api.ErrLarge}, {b, callDelete("new", -1), api.ErrLarge},
		{off(), callDelete("b", 9), api.ErrNone}, {off(), callDelete("b", -1), api.ErrNone}, {off(), callDelete("", 9), api.ErrArg}, {withLast(off(), mostID), callDelete("b", 9), api.ErrNone},
	})
	if got, id, e := Put(withLast(on(), mostID-1), "a", "x", 9); id != mostID || got.Last != mostID || e != api.OK {
		t.Errorf("Put of the last number: %d, %d", id, e)
	}
	if got, id, e := Put(withLast(held(), mostID), "a", "x", 9); id != 0 || got.Last != mostID || e != api.OK {
		t.Errorf("Put with Held, no number left: %d, %d", id, e)
	}
}

// TestDelete: P9.2, at all buckets, keys and times.
func TestDelete(t *testing.T) {
	var calls []call
	for _, key := range someKeys() {
		for _, at := range someTimes() {
			calls = append(calls, callDelete(key, at))
		}
	}
	hold(t, goodBuckets(), calls)
}

// TestDeleteByHand: P9.2, a Mark, or none, of each state.
func TestDeleteByHand(t *testing.T) {
	for _, at := range []int{math.MinInt, 0, 9, math.MaxInt} {
		b, id, e := Delete(off(), "a", at)
		if want := []api.Entry{off().L[1]}; id != 0 || e != api.OK || !same(b, api.Bucket{Name: "box", State: api.Off, L: want, Up: off().Up, Last: 7}) {
			t.Errorf("Delete with Off: %v, %d, %d", b, id, e)
		}
	}
	b, id, e := Delete(on(), "d", 2)
	want := on()
	want.Last, want.L = 10, append(want.L, entry("d", api.Version{ID: 10, Mark: true, At: 2}))
	if id != 10 || e != api.OK || !same(b, want) {
		t.Errorf("Delete with On: %v, %d, %d", b, id, e)
	}
	b, id, e = Delete(held(), "a", 9)
	want = held()
	want.L[0].L = []api.Version{{Mark: true, At: 9}, {ID: 5, Data: "five", At: 6}, {ID: 2, Mark: true, At: 4}, {ID: 1, Data: "one"}}
	if id != 0 || e != api.OK || !same(b, want) {
		t.Errorf("Delete with Held: %v, %d, %d", b, id, e)
	}
}

// TestDropGetAndFind: P9.3, at all buckets, keys and IDs.
func TestDropGetAndFind(t *testing.T) {
	var calls []call
	for _, key := range someKeys() {
		calls = append(calls, callGet(key))
		for _, id := range someIDs() {
			calls = append(calls, callDrop(key, id), callFind(key, id))
		}
	}
	hold(t, goodBuckets(), calls)
}

// TestDropByHand: P9.3, a version, a Mark, the only one, and none.
func TestDropByHand(t *testing.T) {
	for i, c := range []struct {
		key  string
		id   uint64
		want func(b *api.Bucket)
	}{
		{"a", 5, func(b *api.Bucket) { b.L[0].L = b.L[0].L[1:] }},
		{"a", 0, func(b *api.Bucket) { b.L[0].L = take(b.L[0].L, 0) }},
		{"a", 2, func(b *api.Bucket) { b.L[0].L = take(b.L[0].L, 2) }},
		{"a", 1, func(b *api.Bucket) { b.L[0].L = b.L[0].L[:3] }},
		{"b", 8, func(b *api.Bucket) { b.L = slices.Delete(b.L, 1, 2) }},
		{"c", 9, func(b *api.Bucket) { b.L[2].L = b.L[2].L[1:] }},
	} {
		want := on()
		c.want(&want)
		if got, e := Drop(on(), c.key, c.id); !same(got, want) || e != api.OK {
			t.Errorf("Drop %d: %v, %d", i, got, e)
		}
	}
	refused(t, []refusal{
		{on(), callDrop("a", 4), api.ErrNone}, {on(), callDrop("b", 0), api.ErrNone}, {on(), callDrop("d", 5), api.ErrNone}, {on(), callDrop("a", 1<<32+5), api.ErrNone}, {on(), callDrop("a", math.MaxUint64), api.ErrNone}, {on(), callDrop("", 5), api.ErrArg}, {on(), callDrop(longKey()+"k", 5), api.ErrArg}, {off(), callDrop("a", 1), api.ErrNone},
	})
	if got, e := Drop(off(), "a", 0); !same(got, api.Bucket{Name: "box", State: api.Off, L: off().L[1:], Up: off().Up, Last: 7}) || e != api.OK {
		t.Errorf("Drop with Off: %v, %d", got, e)
	}
}

// TestGetAndFindByHand: P9.3, a version, a Mark that is told, and none.
func TestGetAndFindByHand(t *testing.T) {
	five, zero, two, eight := on().L[0].L[0], on().L[0].L[1], on().L[0].L[2], on().L[1].L[0]
	for i, c := range []struct {
		c    call
		want api.Version
		e    api.Errno
	}{
		{callGet("a"), five, api.OK}, {callGet("b"), eight, api.ErrMark}, {callGet("d"), api.Version{}, api.ErrNone}, {callGet(""), api.Version{}, api.ErrArg}, {callGet("a\x7f"), api.Version{}, api.ErrArg},
		{callFind("a", 5), five, api.OK}, {callFind("a", 0), zero, api.OK}, {callFind("a", 2), two, api.ErrMark}, {callFind("b", 8), eight, api.ErrMark}, {callFind("b", 5), api.Version{}, api.ErrNone}, {callFind("d", 5), api.Version{}, api.ErrNone}, {callFind("a", mostID+1), api.Version{}, api.ErrNone}, {callFind("", 5), api.Version{}, api.ErrArg},
	} {
		if got := c.c.got(on()); got.v != c.want || got.e != c.e {
			t.Errorf("%d: %s: %s", i, c.c.name, brief(got))
		}
	}
}

// TestUploads: P9.4, at all buckets: Begin of keys, Lay of parts, Abort.
func TestUploads(t *testing.T) {
	var calls []call
	for _, key := range someKeys() {
		calls = append(calls, callBegin(key))
	}
	for _, id := range someIDs() {
		calls = append(calls, callAbort(id))
		for _, n := range []int{math.MinInt, -1, 0, 1, 2, 3, 30, 31, 999, 1000, 1001, 1<<32 + 1, math.MaxInt} {
			for _, data := range []string{"", "123456789", octetsOf(21), octetsOf(2000), octetsOf(2001)} {
				calls = append(calls, callLay(id, api.Part{N: n, Data: data}))
			}
		}
	}
	hold(t, goodBuckets(), calls)
}

// TestUploadsByHand: P9.4, with each state a number is given out; each error, ahead of those that are named behind it.
func TestUploadsByHand(t *testing.T) {
	for _, b := range []api.Bucket{off(), on(), held()} {
		want := deep(b)
		want.Last++
		want.Up = append(want.Up, up(want.Last, "k"))
		if got, id, e := Begin(b, "k"); !same(got, want) || id != b.Last+1 || e != api.OK {
			t.Errorf("Begin: %v, %d, %d", got, id, e)
		}
		want = deep(b)
		want.Up[0].L[1].Data = "123456789"
		if got, n, e := Lay(b, 3, api.Part{N: 2, Data: "123456789"}); !same(got, want) || n != 0xe3069283 || e != api.OK {
			t.Errorf("Lay: %v, %d, %d", got, n, e)
		}
		want = deep(b)
		want.Up = want.Up[1:]
		if got, e := Abort(b, 3); !same(got, want) || e != api.OK {
			t.Errorf("Abort: %v, %d", got, e)
		}
	}
	full := api.Bucket{Name: "box", Last: mostID, Up: manyUploads(10)}
	wide := api.Bucket{Name: "box", Last: 3, Up: []api.Upload{up(3, "a", manyParts(30, 1, 666)...)}}
	refused(t, []refusal{
		{full, callBegin(""), api.ErrArg}, {full, callBegin("k"), api.ErrLarge}, {withLast(full, 10), callBegin("k"), api.ErrLarge}, {withLast(full, 10), callBegin("k\x7f"), api.ErrArg}, {withLast(off(), mostID), callBegin("k"), api.ErrLarge},
		{wide, callLay(3, api.Part{N: 0}), api.ErrArg}, {wide, callLay(4, api.Part{N: 0}), api.ErrArg}, {wide, callLay(3, api.Part{N: 31, Data: octetsOf(2001)}), api.ErrArg}, {wide, callLay(4, api.Part{N: 31, Data: octetsOf(2000)}), api.ErrNone}, {wide, callLay(3, api.Part{N: 31}), api.ErrLarge}, {wide, callLay(3, api.Part{N: 1, Data: octetsOf(687)}), api.ErrLarge},
		{wide, callAbort(2), api.ErrNone}, {wide, callAbort(0), api.ErrNone}, {wide, callAbort(math.MaxUint64), api.ErrNone},
	})
	if got, _, e := Lay(wide, 3, api.Part{N: 1, Data: octetsOf(686)}); e != api.OK || size(got) != 20000 {
		t.Errorf("Lay of all the octets that are left: %d", e)
	}
}

// somePieces are lists of pieces that name parts of the uploads of buckets, or don't.
func somePieces() [][]api.Piece {
	l := threeParts()
	return [][]api.Piece{
		nil, {}, pieces(l...), pieces(l[0]), pieces(l[1]), pieces(l[2]), pieces(l[1:]...), pieces(l[0], l[2]), pieces(l[1], l[0]), pieces(l[0], l[0]), {piece(1, "First "), piece(2, "second")}, {piece(1, "first "), piece(3, "")}, {{N: 1, Tag: tagOf("first ") + 1}}, {piece(0, "")}, {piece(math.MinInt, ""), piece(math.MaxInt, "")},
		{piece(1, "four"), piece(2, "second")}, {piece(2, "second")}, {piece(1, "x")}, {piece(1, "0123456789")},
		pieces(manyParts(30, 1, 66)...), pieces(manyParts(30, 1, 67)...), pieces(manyParts(29, 1, 67)...), pieces(manyParts(29, 900, 10)...), pieces(manyParts(1, 1, 2000)...), pieces(manyParts(2, 1, 2000)...), pieces(manyParts(1, 10, 2000)...), {piece(1, octetsOf(1000)), piece(2, octetsOf(989))},
	}
}

// TestWhole: P9.4, at all buckets, IDs, pieces, and times; what is handed in stays.
func TestWhole(t *testing.T) {
	all := somePieces()
	was := somePieces()
	var calls []call
	for _, l := range all {
		for _, id := range someIDs() {
			calls = append(calls, callWhole(id, l, 9))
		}
		for _, at := range someTimes() {
			calls = append(calls, callWhole(3, l, at))
		}
	}
	hold(t, goodBuckets(), calls)
	if !slices.EqualFunc(all, was, slices.Equal) {
		t.Errorf("Whole: %s is %s now", brief(was), brief(all))
	}
}

// TestWholeByHand: P9.4, a version of each state, and each error, ahead of those that are named behind it.
func TestWholeByHand(t *testing.T) {
	all := pieces(threeParts()...)
	text := manyOf("first ", "second", "end")
	for i, c := range []struct {
		b    api.Bucket
		id   uint64
		want func(b *api.Bucket)
	}{
		{off(), 0, func(b *api.Bucket) {
			b.L = slices.Insert(b.L, 1, entry("b", api.Version{Data: "first secondend", At: 9}))
		}},
		{on(), 10, func(b *api.Bucket) {
			b.Last, b.L[0].L = 10, slices.Insert(b.L[0].L, 0, api.Version{ID: 10, Data: "first secondend", At: 9})
		}},
		{held(), 0, func(b *api.Bucket) {
			b.L[0].L = slices.Insert(take(b.L[0].L, 0), 0, api.Version{Data: "first secondend", At: 9})
		}},
	} {
		want := deep(c.b)
		want.Up = want.Up[1:]
		c.want(&want)
		if got, id, s, e := Whole(c.b, 3, all, 9); !same(got, want) || id != c.id || s != text || e != api.OK {
			t.Errorf("Whole %d: %v, %d, %s, %d, want %v", i, got, id, s, e, want)
		}
	}
	b := withLast(on(), mostID)
	versions := api.Bucket{Name: "box", State: api.On, Last: 50, L: []api.Entry{entry("a", manyVersions(20, 50)...)}, Up: []api.Upload{up(3, "a", threeParts()...)}}
	keys := api.Bucket{Name: "box", State: api.On, Last: 50, L: manyEntries(60, 1, 0), Up: []api.Upload{up(3, "a", threeParts()...)}}
	refused(t, []refusal{
		{b, callWhole(4, nil, -1), api.ErrNone}, {b, callWhole(0, all, 9), api.ErrNone}, {b, callWhole(3, nil, -1), api.ErrArg}, {b, callWhole(3, []api.Piece{all[1], all[0]}, -1), api.ErrOrder}, {b, callWhole(3, []api.Piece{piece(1, "other")}, -1), api.ErrNone}, {b, callWhole(7, []api.Piece{piece(1, "four"), piece(2, "second")}, -1), api.ErrShort}, {b, callWhole(3, all, -1), api.ErrLarge}, {b, callWhole(3, all, 9), api.ErrLarge},
		{on(), callWhole(3, all, -1), api.ErrArg}, {on(), callWhole(3, all, 5), api.ErrArg}, {off(), callWhole(3, all, mostTime+1), api.ErrArg}, {versions, callWhole(3, all, 4), api.ErrArg}, {versions, callWhole(3, all, 9), api.ErrLarge}, {keys, callWhole(3, all, -1), api.ErrArg}, {keys, callWhole(3, all, 9), api.ErrLarge},
	})
}

// TestMostOctets: P9.2, P9.4, at MaxOctets all is as below it, one more is ErrLarge, behind all other errors; what an upload has counts no more once it is whole.
func TestMostOctets(t *testing.T) {
	for _, state := range []int{api.Off, api.On, api.Held} {
		b := api.Bucket{Name: "box", State: state, Last: 5, L: manyEntries(9, 0, 2000), Up: []api.Upload{up(5, "a", api.Part{N: 1, Data: octetsOf(1000)}, api.Part{N: 2, Data: octetsOf(990)})}}
		for _, c := range []call{callPut("a", octetsOf(10), 9), callPut("a", "", 9), callLay(5, api.Part{N: 3, Data: octetsOf(10)}), callLay(5, api.Part{N: 2, Data: octetsOf(1000)}), callWhole(5, pieces(b.Up[0].L...), 9)} {
			if got := c.got(b); got.e != api.OK || size(got.b) > 20000 {
				t.Errorf("with state %d: %s: %d", state, c.name, got.e)
			}
		}
		refused(t, []refusal{
			{b, callPut("a", octetsOf(11), 9), api.ErrLarge}, {b, callLay(5, api.Part{N: 3, Data: octetsOf(11)}), api.ErrLarge}, {b, callLay(5, api.Part{N: 2, Data: octetsOf(1001)}), api.ErrLarge},
			{b, callPut("", octetsOf(11), 9), api.ErrArg}, {b, callPut("k10", octetsOf(2000), 4), api.ErrArg}, {b, callLay(5, api.Part{N: 0, Data: octetsOf(11)}), api.ErrArg}, {b, callLay(4, api.Part{N: 1, Data: octetsOf(2000)}), api.ErrNone},
		})
		// But with On the version that was there is written over, so there are no more octets than before.
		want := api.OK
		if state == api.On {
			want = api.ErrLarge
		}
		if got := callPut("k10", octetsOf(2000), 9).got(b); got.e != want {
			t.Errorf("with state %d: Put over 2000 octets: %d", state, got.e)
		}
	}
}

// roomy is the bucket with room behind all lists.
func roomy(b api.Bucket) api.Bucket {
	b = deep(b)
	b.L, b.Up = slices.Grow(b.L, 5), slices.Grow(b.Up, 5)
	for i := range b.L {
		b.L[i].L = slices.Grow(b.L[i].L, 5)
	}
	for i := range b.Up {
		b.Up[i].L = slices.Grow(b.Up[i].L, 5)
	}
	return b
}

// wholeRoom is the bucket with what stands in the room behind its lists.
func wholeRoom(b api.Bucket) api.Bucket {
	b.L, b.Up = slices.Clone(b.L[:cap(b.L)]), slices.Clone(b.Up[:cap(b.Up)])
	for i, e := range b.L {
		b.L[i].L = slices.Clone(e.L[:cap(e.L)])
	}
	for i, u := range b.Up {
		b.Up[i].L = slices.Clone(u.L[:cap(u.L)])
	}
	return b
}

// scribble writes over all that a bucket has, and what room there is behind its lists.
func scribble(b api.Bucket) {
	for _, e := range b.L[:cap(b.L)] {
		for i := range e.L[:cap(e.L)] {
			e.L[:cap(e.L)][i] = api.Version{ID: 999, Data: "scribble"}
		}
	}
	for _, u := range b.Up[:cap(b.Up)] {
		for i := range u.L[:cap(u.L)] {
			u.L[:cap(u.L)][i] = api.Part{N: 999, Data: "scribble"}
		}
	}
	for i := range b.L[:cap(b.L)] {
		b.L[:cap(b.L)][i] = entry("scribble")
	}
	for i := range b.Up[:cap(b.Up)] {
		b.Up[:cap(b.Up)][i] = up(999, "scribble")
	}
}

// allCalls is one of each call that changes a bucket, and one that is refused.
func allCalls() []call {
	return []call{
		callTurn(api.Held), callTurn(9), callPut("a", "x", 9), callPut("d", "x", 9), callPut("", "x", 9), callDelete("a", 9), callDelete("c", 9), callDelete("none", -1), callDrop("a", 0), callDrop("b", 8), callDrop("a", 77), callBegin("a"), callBegin(""),
		callLay(3, api.Part{N: 2, Data: "x"}), callLay(3, api.Part{N: 3, Data: "x"}), callLay(7, api.Part{N: 1000}), callLay(77, api.Part{N: 1}), callAbort(3), callAbort(7), callAbort(77), callWhole(3, pieces(threeParts()...), 9), callWhole(3, pieces(threeParts()...), -1), callWhole(3, nil, 9),
	}
}

// TestNewMemory: P9.1 to P9.4, what is answered, also beside an error, shares nothing with what was handed in, even where there is room behind it.
func TestNewMemory(t *testing.T) {
	bad := on()
	bad.Name = ""
	for i, b := range []api.Bucket{off(), on(), held(), bad} {
		for _, c := range allCalls() {
			b := roomy(b)
			was := wholeRoom(b)
			got := c.got(b)
			scribble(got.b)
			if !same(wholeRoom(b), was) {
				t.Fatalf("bucket %d: %s: %s is %s now", i, c.name, brief(was), brief(wholeRoom(b)))
			}
		}
	}
}

// TestListsApart: P9.1 to P9.4, no two lists of an answer share memory, though those of the bucket that was handed in do.
func TestListsApart(t *testing.T) {
	for _, c := range allCalls() {
		b := on()
		b.L[1].L = b.L[2].L
		b.Up[2].L = b.Up[0].L
		got := c.got(b).b
		for i := range got.L {
			for k := range got.L {
				if i != k && &got.L[i].L[0] == &got.L[k].L[0] {
					t.Errorf("%s: versions of %d and %d are the same list", c.name, i, k)
				}
			}
		}
		for i := range got.Up {
			for k := range got.Up {
				if i != k && len(got.Up[i].L) > 0 && len(got.Up[k].L) > 0 && &got.Up[i].L[0] == &got.Up[k].L[0] {
					t.Errorf("%s: parts of %d and %d are the same list", c.name, i, k)
				}
			}
		}
	}
}

// chanceCall is a call that hangs on chance, mostly one that goes.
func chanceCall(b api.Bucket, chance func(n int) int, now int) call {
	key := string([]byte{byte('a' + chance(6))})
	if chance(40) == 0 {
		key = ""
	}
	id := b.Last - min(b.Last, uint64(chance(12)))
	if chance(8) == 0 {
		id = 0
	}
	if len(b.Up) > 0 && chance(2) == 0 {
		id = b.Up[chance(len(b.Up))].ID
	}
	data := octetsOf(chance(40))
	if chance(4) == 0 {
		data = octetsOf(chance(2002))
	}
	switch chance(12) {
	case 0, 1, 2:
		return callPut(key, data, now)
	case 3:
		return callDelete(key, now-chance(3))
	case 4, 5:
		return callDrop(key, id)
	case 6:
		return callBegin(key)
	case 7, 8, 9:
		return callLay(id, api.Part{N: chance(34), Data: data})
	case 10:
		return callAbort(id)
	}
	at := upload(&b, id)
	if at < 0 {
		return callWhole(id, nil, now)
	}
	return callWhole(id, pieces(b.Up[at].L[chance(len(b.Up[at].L)+1):]...), now)
}

// kept is where each version is, by its key and its number.
func kept(b api.Bucket) map[string]api.Version {
	all := map[string]api.Version{}
	for _, e := range b.L {
		for _, v := range e.L {
			all[fmt.Sprintf("%s, %d", e.Key, v.ID)] = v
		}
	}
	return all
}

// TestManySteps: P9.5, along many steps, each held against the document's words: a bucket that may be stays one, with On no version is lost, but by Drop, and numbers are given out once.
func TestManySteps(t *testing.T) {
	seed := uint32(1)
	chance := func(n int) int {
		seed = seed*1664525 + 1013904223
		return int(seed >> 8 % uint32(n))
	}
	for _, path := range [][]int{{api.Off, api.On, api.Held, api.On}, {api.On, api.Held}, {api.Held, api.On}, {api.Off}} {
		b, _ := New("box")
		last := uint64(0)
		for stage, state := range path {
			b, _ = Turn(b, state)
			for step := range 2500 {
				c := chanceCall(b, chance, step/10+stage*250)
				got, want := c.got(b), c.want(b)
				if !sameAnswer(got, want) {
					t.Fatalf("step %d: %s of %s: %s, want %s", step, c.name, brief(b), brief(got), brief(want))
				}
				if got.e == api.OK && got.id != 0 {
					if got.id <= last {
						t.Fatalf("step %d: %s: the number %d again", step, c.name, got.id)
					}
					last = got.id
				}
				if state == api.On && !strings.HasPrefix(c.name, "Drop") {
					now := kept(got.b)
					for at, v := range kept(b) {
						if now[at] != v {
							t.Fatalf("step %d: %s: %s is lost", step, c.name, at)
						}
					}
				}
				b = got.b
				if Check(b) != api.OK {
					t.Fatalf("step %d: %s: may not be: %s", step, c.name, brief(b))
				}
			}
		}
	}
}

// TestExamples: the chapter's examples.
func TestExamples(t *testing.T) {
	b, _ := New("box")
	b, _, _ = Put(b, "a", "one", 1)
	b, _, _ = Put(b, "a", "two", 2)
	if len(b.L) != 1 || !slices.Equal(b.L[0].L, []api.Version{{Data: "two", At: 2}}) {
		t.Errorf("Off, Put twice: %v", b)
	}
	b, _, e := Delete(b, "a", 3)
	if e != api.OK || !Empty(b) {
		t.Errorf("Off, Delete: %v, %d", b, e)
	}
	b, _ = Turn(b, api.On)
	b, one, _ := Put(b, "a", "kept", 3)
	b, two, _ := Delete(b, "a", 4)
	if v, e := Get(b, "a"); v != (api.Version{ID: 2, Mark: true, At: 4}) || e != api.ErrMark || one != 1 || two != 2 {
		t.Errorf("On, Get of what was deleted: %v, %d", v, e)
	}
	b, _ = Drop(b, "a", two)
	if v, e := Get(b, "a"); v != (api.Version{ID: 1, Data: "kept", At: 3}) || e != api.OK {
		t.Errorf("On, Get behind Drop of the Mark: %v, %d", v, e)
	}
	b, id, _ := Begin(b, "k")
	b, n, _ := Lay(b, id, api.Part{N: 1, Data: "what was laid"})
	b, id, text, e := Whole(b, id, []api.Piece{{N: 1, Tag: n}}, 5)
	if v, _ := Get(b, "k"); v != (api.Version{ID: 4, Data: "what was laid", At: 5}) || id != 4 || text != manyOf("what was laid") || e != api.OK || len(b.Up) != 0 {
		t.Errorf("Whole: %v, %d, %s, %d", v, id, text, e)
	}
}
