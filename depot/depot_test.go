package depot

import (
	"fmt"
	"hash/crc32"
	"maps"
	"math"
	"slices"
	"strings"
	"testing"

	"cellarer/api"
	"cellarer/bucket"
	"cellarer/span"
)

// The document's limits, as numbers of their own.
const (
	mostID   = 281474976710655
	mostTime = 1099511627775
)

// brief is the beginning of how a value is told.
func brief(x any) string { return fmt.Sprintf("%.400s", fmt.Sprint(x)) }

// octetsOf is so many octets.
func octetsOf(n int) string { return strings.Repeat("d", n) }

// tagOf is octets' tag, as the library has it.
func tagOf(s string) uint32 {
	return crc32.Checksum([]byte(s), crc32.MakeTable(crc32.Castagnoli))
}

// tagText is the text of octets' tag.
func tagText(s string) string { return fmt.Sprintf("%08x", tagOf(s)) }

// manyText is the text of the tag of octets' tags.
func manyText(l ...string) string {
	octets := ""
	for _, s := range l {
		t := tagOf(s)
		octets += string([]byte{byte(t >> 24), byte(t >> 16), byte(t >> 8), byte(t)})
	}
	return fmt.Sprintf("%s-%d", tagText(octets), len(l))
}

// pieces names parts by their octets.
func pieces(l ...api.Part) []api.Piece {
	var all []api.Piece
	for _, p := range l {
		all = append(all, api.Piece{N: p.N, Tag: tagOf(p.Data)})
	}
	return all
}

// entry is an entry.
func entry(key string, l ...api.Version) api.Entry { return api.Entry{Key: key, L: l} }

// up is an upload.
func up(id uint64, key string, l ...api.Part) api.Upload { return api.Upload{ID: id, Key: key, L: l} }

// threeParts is some parts to be put together.
func threeParts() []api.Part {
	return []api.Part{{N: 1, Data: "first "}, {N: 2, Data: "second"}, {N: 1000, Data: "end"}}
}

// bin, box and tub are buckets as they come about, with Off, On and Held, made up to the time 8.
func bin() api.Bucket {
	return api.Bucket{
		Name: "bin", State: api.Off, Last: 7,
		L:  []api.Entry{entry("a", api.Version{Data: "of a", At: 3}), entry("c", api.Version{Data: "", At: 5})},
		Up: []api.Upload{up(3, "b", threeParts()...), up(7, "a")},
	}
}

func box() api.Bucket {
	return api.Bucket{
		Name: "box", State: api.On, Last: 9,
		L: []api.Entry{
			entry("a", api.Version{ID: 5, Data: "the fifth", At: 6}, api.Version{Data: "zero", At: 6}, api.Version{ID: 2, Mark: true, At: 4}, api.Version{ID: 1, Data: "one", At: 0}),
			entry("b", api.Version{ID: 8, Mark: true, At: 7}),
			entry("c", api.Version{ID: 9, Mark: true, At: 8}, api.Version{ID: 4, Data: "", At: 5}),
		},
		Up: []api.Upload{up(3, "a", threeParts()...), up(7, "d", api.Part{N: 1, Data: "four"}, api.Part{N: 2, Data: "second"}), up(9, "a")},
	}
}

func tub() api.Bucket {
	b := box()
	b.Name, b.State = "tub", api.Held
	b.L[1].L = []api.Version{{Mark: true, At: 7}, {ID: 8, Data: "eight", At: 7}}
	return b
}

// some is a depot as it comes about, at the time 8: a bucket of each state, and one with nothing in it.
func some() api.Depot {
	return api.Depot{Now: 8, L: []api.Bucket{bin(), box(), tub(), {Name: "vat", State: api.Held, Last: 4}}}
}

// six is a depot with as many buckets as there may be, named bbb, ddd, ..; nothing is in them.
func six() api.Depot {
	d := api.Depot{Now: 3}
	for _, s := range []string{"bbb", "ddd", "fff", "hhh", "jjj", "lll"} {
		d.L = append(d.L, api.Bucket{Name: s})
	}
	return d
}

// manyEntries is so many entries, k10, k11, .., of one version each, of this many octets.
func manyEntries(n, octets int) []api.Entry {
	var l []api.Entry
	for i := range n {
		l = append(l, entry(fmt.Sprintf("k%d", 10+i), api.Version{Data: octetsOf(octets), At: 2}))
	}
	return l
}

// manyVersions is so many versions.
func manyVersions(n int) []api.Version {
	var l []api.Version
	for i := range n {
		l = append(l, api.Version{ID: uint64(n - i), Data: "v", At: 1})
	}
	return l
}

// atLimits is a depot with buckets that are at theirs: of octets, of versions of a key, of keys, of numbers, of uploads and of parts.
func atLimits() api.Depot {
	uploads := api.Bucket{Name: "l-uploads", State: api.On, Last: 50}
	for i := range 10 {
		uploads.Up = append(uploads.Up, up(uint64(i+1), "a"))
	}
	for i := range 30 {
		uploads.Up[2].L = append(uploads.Up[2].L, api.Part{N: i + 1, Data: octetsOf(67)})
	}
	return api.Depot{Now: 8, L: []api.Bucket{
		{Name: "l-keys", State: api.On, Last: 5, L: manyEntries(60, 1)},
		{Name: "l-numbers", State: api.On, Last: mostID, L: manyEntries(1, 1)},
		{Name: "l-octets", L: manyEntries(10, 2000), Last: 3, Up: []api.Upload{up(3, "a", api.Part{N: 1})}},
		uploads,
		{Name: "l-versions", State: api.On, Last: 20, L: []api.Entry{entry("a", manyVersions(20)...)}},
	}}
}

// goodDepots may be; each edge is there.
func goodDepots() []api.Depot {
	at := func(now, made int) api.Depot {
		return api.Depot{Now: now, L: []api.Bucket{{Name: "box", L: []api.Entry{entry("a", api.Version{Data: "x", At: made})}}}}
	}
	all := []api.Depot{{}, {L: []api.Bucket{}}, {Now: 1}, {Now: mostTime}, {Now: mostTime - 1}, at(0, 0), at(1, 0), at(5, 5), at(mostTime, mostTime), at(mostTime, 0), some(), six(), atLimits()}
	for _, l := range [][]string{{"000", "001"}, {"a-z", "a0z", "aaz"}, {"abc", "abcd"}, {"abc", strings.Repeat("z", 20)}, {"a00"}} {
		d := api.Depot{}
		for _, s := range l {
			d.L = append(d.L, api.Bucket{Name: s})
		}
		all = append(all, d)
	}
	return all
}

// badDepots may not be, each for one reason.
func badDepots() []api.Depot {
	var all []api.Depot
	from := func(d api.Depot, spoil func(d *api.Depot)) {
		d = deep(d)
		spoil(&d)
		all = append(all, d)
	}
	for _, d := range []api.Depot{some(), {}, six()} {
		for _, n := range []int{math.MinInt, -1, mostTime + 1, 1 << 41, math.MaxInt} {
			from(d, func(d *api.Depot) { d.Now = n })
		}
		from(d, func(d *api.Depot) { d.L = append(d.L, api.Bucket{}) })
		from(d, func(d *api.Depot) { d.L = append([]api.Bucket{{Name: "aa"}}, d.L...) })
	}
	from(six(), func(d *api.Depot) { d.L = append(d.L, api.Bucket{Name: "mmm"}) })
	from(six(), func(d *api.Depot) { d.L = slices.Insert(d.L, 0, api.Bucket{Name: "aaa"}) })
	from(some(), func(d *api.Depot) { d.Now = 7 })
	from(some(), func(d *api.Depot) { d.Now = 0 })
	from(some(), func(d *api.Depot) { d.L[0].L[0].L[0].At = 9 })
	from(some(), func(d *api.Depot) { d.L[2].L[2].L[0].At = 9 })
	from(some(), func(d *api.Depot) { d.L[1].L[1].L[0].At = mostTime })
	from(some(), func(d *api.Depot) { d.L[0], d.L[1] = d.L[1], d.L[0] })
	from(some(), func(d *api.Depot) { d.L[2], d.L[3] = d.L[3], d.L[2] })
	from(some(), func(d *api.Depot) { d.L = append(d.L, d.L[3]) })
	from(some(), func(d *api.Depot) { d.L[1] = d.L[0] })
	from(some(), func(d *api.Depot) { d.L[1].Name = "bin" })
	for i := range 4 {
		from(some(), func(d *api.Depot) { d.L[i].Name = "" })
		from(some(), func(d *api.Depot) { d.L[i].Name += "-" })
		from(some(), func(d *api.Depot) { d.L[i].State = 3 })
		from(some(), func(d *api.Depot) { d.L[i].State = -1 })
		from(some(), func(d *api.Depot) { d.L[i].Last = mostID + 1 })
		from(some(), func(d *api.Depot) { d.L[i].L = append(d.L[i].L, entry("z")) })
		from(some(), func(d *api.Depot) { d.L[i].Up = append(d.L[i].Up, up(d.L[i].Last+1, "a")) })
		from(some(), func(d *api.Depot) { d.L[i].L, d.L[i].Up = manyEntries(11, 2000), nil })
	}
	return append(all, api.Depot{L: make([]api.Bucket, 1)}, api.Depot{L: make([]api.Bucket, 6)}, api.Depot{L: make([]api.Bucket, 100000)})
}

// deepBucket is the same bucket in memory of its own.
func deepBucket(b api.Bucket) api.Bucket {
	var l []api.Entry
	for _, e := range b.L {
		l = append(l, api.Entry{Key: e.Key, L: slices.Clone(e.L)})
	}
	var ups []api.Upload
	for _, u := range b.Up {
		ups = append(ups, api.Upload{ID: u.ID, Key: u.Key, L: slices.Clone(u.L)})
	}
	return api.Bucket{Name: b.Name, State: b.State, L: l, Up: ups, Last: b.Last}
}

// deep is the same depot in memory of its own.
func deep(d api.Depot) api.Depot {
	var l []api.Bucket
	for _, b := range d.L {
		l = append(l, deepBucket(b))
	}
	return api.Depot{Now: d.Now, L: l}
}

// sameBucket: the same buckets, a nil list as one without elements?
func sameBucket(a, b api.Bucket) bool {
	return a.Name == b.Name && a.State == b.State && a.Last == b.Last &&
		slices.EqualFunc(a.L, b.L, func(x, y api.Entry) bool { return x.Key == y.Key && slices.Equal(x.L, y.L) }) &&
		slices.EqualFunc(a.Up, b.Up, func(x, y api.Upload) bool { return x.ID == y.ID && x.Key == y.Key && slices.Equal(x.L, y.L) })
}

// same: the same depots?
func same(a, b api.Depot) bool {
	return a.Now == b.Now && slices.EqualFunc(a.L, b.L, sameBucket)
}

// mayBe: may a depot be, as the document's words say it? Each two buckets are held against each other.
func mayBe(d api.Depot) bool {
	if d.Now < 0 || d.Now > mostTime || len(d.L) > 6 {
		return false
	}
	for i, b := range d.L {
		if bucket.Check(b) != api.OK || slices.ContainsFunc(d.L[i+1:], func(x api.Bucket) bool { return strings.Compare(x.Name, b.Name) <= 0 }) {
			return false
		}
		for _, e := range b.L {
			for _, v := range e.L {
				if v.At > d.Now {
					return false
				}
			}
		}
	}
	return true
}

// shelf is a depot as the document's words have it: buckets by their names, and the time.
type shelf struct {
	now int
	all map[string]api.Bucket
}

func shelfOf(d api.Depot) shelf {
	s := shelf{d.Now, map[string]api.Bucket{}}
	for _, b := range d.L {
		s.all[b.Name] = deepBucket(b)
	}
	return s
}

func (s shelf) depot() api.Depot {
	d := api.Depot{Now: s.now}
	for _, n := range slices.Sorted(maps.Keys(s.all)) {
		d.L = append(d.L, s.all[n])
	}
	return d
}

// wantVersion is the version that is asked for, as P10.2 and P10.3 say.
func wantVersion(b api.Bucket, a api.Ask) (api.Version, api.Errno) {
	if a.ID != 0 {
		return bucket.Find(b, a.Key, a.ID)
	}
	return bucket.Get(b, a.Key)
}

// wantBucket is what P10.2 says of what is asked of one bucket: it then, and what is told.
func wantBucket(b api.Bucket, a api.Ask, now int) (c api.Bucket, told api.Told) {
	switch a.Kind {
	case 3:
		c, told.E = bucket.Turn(b, a.N)
	case 4:
		c, told.ID, told.E = bucket.Put(b, a.Key, a.Data, now)
		told.Tag = tagText(a.Data)
	case 5:
		c, told.ID, told.E = bucket.Delete(b, a.Key, now)
	case 6:
		c, told.E = bucket.Drop(b, a.Key, a.ID)
	case 7:
		c, told.ID, told.E = bucket.Begin(b, a.Key)
	case 8:
		c, _, told.E = bucket.Lay(b, a.ID, api.Part{N: a.N, Data: a.Data})
		told.Tag = tagText(a.Data)
	case 9:
		c, told.E = bucket.Abort(b, a.ID)
	case 10:
		c, told.ID, told.Tag, told.E = bucket.Whole(b, a.ID, a.Pieces, now)
	}
	return c, told
}

// on does what is asked on the shelf, and tells what is told; with an error nothing but that counts.
func (s *shelf) on(a api.Ask) api.Told {
	b, isThere := s.all[a.Bucket]
	switch {
	case a.Kind < 1 || a.Kind > 12:
		return api.Told{E: api.ErrArg}
	case a.Kind == 12 && (a.N < 0 || a.N > mostTime || s.now+a.N > mostTime):
		return api.Told{E: api.ErrArg}
	case a.Kind == 12:
		s.now += a.N
		return api.Told{}
	case a.Kind == 1:
		b, e := bucket.New(a.Bucket)
		if e == api.OK && isThere {
			e = api.ErrThere
		}
		if e == api.OK && len(s.all) == 6 {
			e = api.ErrLarge
		}
		s.all[a.Bucket] = b
		return api.Told{E: e}
	case !isThere:
		return api.Told{E: api.ErrNone}
	case a.Kind == 2 && (len(b.L) > 0 || len(b.Up) > 0):
		return api.Told{E: api.ErrState}
	case a.Kind == 2:
		delete(s.all, a.Bucket)
		return api.Told{}
	case a.Kind == 11:
		v, e := wantVersion(b, a)
		if e != api.OK {
			return api.Told{E: e}
		}
		return s.on(api.Ask{Kind: 4, Bucket: a.To, Key: a.As, Data: v.Data})
	}
	c, told := wantBucket(b, a, s.now)
	s.all[a.Bucket] = c
	return told
}

// wantDo is what Do answers, as P10.2 says it.
func wantDo(d api.Depot, a api.Ask) (api.Depot, api.Told) {
	if !mayBe(d) {
		return d, api.Told{E: api.ErrArg}
	}
	s := shelfOf(d)
	told := s.on(a)
	if told.E != api.OK {
		return d, api.Told{E: told.E}
	}
	return s.depot(), told
}

// wantRead is what Read answers, as P10.3 says it.
func wantRead(d api.Depot, a api.Ask, s api.Span) (string, api.Told) {
	if !mayBe(d) {
		return "", api.Told{E: api.ErrArg}
	}
	b, isThere := shelfOf(d).all[a.Bucket]
	if !isThere {
		return "", api.Told{E: api.ErrNone}
	}
	v, e := wantVersion(b, a)
	if e == api.ErrMark {
		return "", api.Told{ID: v.ID, E: e}
	}
	if e != api.OK {
		return "", api.Told{E: e}
	}
	data := v.Data
	if !s.Open || s.Back || s.From != 0 || s.To != 0 {
		data, e = span.Cut(s, data)
	}
	if e != api.OK {
		return "", api.Told{E: e}
	}
	return data, api.Told{ID: v.ID, Tag: tagText(v.Data)}
}

// holdOne holds Do against the document's words; what is handed in stays, and what is answered may be.
func holdOne(t *testing.T, d api.Depot, a api.Ask) (api.Depot, api.Told) {
	t.Helper()
	was, named := deep(d), slices.Clone(a.Pieces)
	got, told := Do(d, a)
	want, wantTold := wantDo(d, a)
	if !same(got, want) || told != wantTold {
		t.Fatalf("Do(%s, %s): %s, %v, want %s, %v", brief(d), brief(a), brief(got), told, brief(want), wantTold)
	}
	if !same(d, was) || !slices.Equal(a.Pieces, named) {
		t.Fatalf("Do(%s, %s): what was handed in is %s, %v now", brief(was), brief(a), brief(d), a.Pieces)
	}
	if mayBe(d) && (!mayBe(got) || Check(got) != api.OK) {
		t.Fatalf("Do(%s, %s): may not be: %s", brief(d), brief(a), brief(got))
	}
	if mayBe(d) {
		othersStay(t, d, got, a)
	}
	return got, told
}

// othersStay: has each bucket but the one to which what is asked goes stayed as it was?
func othersStay(t *testing.T, d, got api.Depot, a api.Ask) {
	t.Helper()
	goes := a.Bucket
	if a.Kind == api.Copy {
		goes = a.To
	}
	was, now := shelfOf(d).all, shelfOf(got).all
	if a.Kind != api.Tick {
		delete(was, goes)
		delete(now, goes)
	}
	if !maps.EqualFunc(was, now, sameBucket) {
		t.Fatalf("Do(%s, %s): another bucket is not as it was: %s", brief(d), brief(a), brief(got))
	}
}

// someBuckets are names of buckets that are there, that are not, and that may not be.
func someBuckets() []string {
	return []string{"bin", "box", "tub", "vat", "aaa", "boy", "zzz", "bbb", "lll", "000", strings.Repeat("n", 20), "l-keys", "l-numbers", "l-octets", "l-uploads", "l-versions", "", "bo", "Box", "box-", "box\x00", "b/x", strings.Repeat("n", 21)}
}

// someKeys are keys that are there, that are not, and that may not be.
func someKeys() []string {
	return []string{"a", "b", "c", "d", "k10", strings.Repeat("k", 60), "", "a\x7f", strings.Repeat("k", 61)}
}

// someIDs are IDs that are there, and that are not.
func someIDs() []uint64 {
	return []uint64{0, 1, 2, 3, 4, 5, 7, 8, 9, 10, 1<<32 + 5, mostID, mostID + 1, math.MaxUint64}
}

// someNumbers are states, parts' numbers, and times, that may be, and that may not.
func someNumbers() []int {
	return []int{math.MinInt, -1, 0, 1, 2, 3, 4, 31, 999, 1000, 1001, mostTime - 9, mostTime - 8, mostTime - 7, mostTime - 1, mostTime, mostTime + 1, 1 << 62, math.MaxInt}
}

// someAsks is what is asked of one bucket: each kind, with what may be, and what may not.
func someAsks(name string) []api.Ask {
	var all []api.Ask
	ask := func(a api.Ask) {
		a.Bucket = name
		all = append(all, a)
	}
	ask(api.Ask{Kind: api.Make})
	ask(api.Ask{Kind: api.Remove})
	for _, n := range someNumbers() {
		ask(api.Ask{Kind: api.Turn, N: n})
		ask(api.Ask{Kind: api.Tick, N: n})
		ask(api.Ask{Kind: api.Lay, ID: 3, N: n, Data: "laid"})
	}
	for _, key := range someKeys() {
		ask(api.Ask{Kind: api.Delete, Key: key})
		ask(api.Ask{Kind: api.Begin, Key: key})
		for _, data := range []string{"", "\x00\xff\n", octetsOf(2000), octetsOf(2001)} {
			ask(api.Ask{Kind: api.Put, Key: key, Data: data})
		}
		for _, id := range someIDs() {
			ask(api.Ask{Kind: api.Drop, Key: key, ID: id})
		}
	}
	for _, id := range someIDs() {
		ask(api.Ask{Kind: api.Lay, ID: id, N: 2, Data: octetsOf(2000)})
		ask(api.Ask{Kind: api.Lay, ID: id, N: 2, Data: octetsOf(2001)})
		ask(api.Ask{Kind: api.Lay, ID: id, N: 31})
		ask(api.Ask{Kind: api.Abort, ID: id})
		for _, l := range [][]api.Piece{nil, {}, pieces(threeParts()...), pieces(threeParts()[1]), pieces(threeParts()[2], threeParts()[0]), {{N: 1, Tag: tagOf("four")}, {N: 2, Tag: tagOf("second")}}, {{N: 1}}} {
			ask(api.Ask{Kind: api.Whole, ID: id, Pieces: l})
		}
	}
	return all
}

// someCopies are copies from one bucket, to others, and to itself.
func someCopies(name string) []api.Ask {
	var all []api.Ask
	for _, key := range someKeys() {
		for _, id := range []uint64{0, 1, 2, 4, 5, 8, 77} {
			for _, to := range append(someBuckets()[:5], "l-keys", "l-octets", "l-versions", "") {
				for _, as := range []string{"a", "new", "", "a\x7f"} {
					all = append(all, api.Ask{Kind: api.Copy, Bucket: name, Key: key, ID: id, To: to, As: as})
				}
			}
		}
	}
	return all
}

// TestCheck: P10.1, depots that may be, and those that may not, each for one reason.
func TestCheck(t *testing.T) {
	for i, d := range goodDepots() {
		if got := Check(d); got != api.OK || !mayBe(d) {
			t.Errorf("Check of good depot %d, %s: %d", i, brief(d), got)
		}
	}
	for i, d := range badDepots() {
		if got := Check(d); got != api.ErrArg || mayBe(d) {
			t.Errorf("Check of bad depot %d, %s: %d", i, brief(d), got)
		}
	}
}

// TestFind: P10.1, each bucket, those that there are not, and any of a depot that may not be.
func TestFind(t *testing.T) {
	for i, d := range goodDepots() {
		all := shelfOf(d).all
		names := append(someBuckets(), slices.Collect(maps.Keys(all))...)
		for _, name := range names {
			want, isThere := all[name]
			wantE := api.OK
			if !isThere {
				wantE = api.ErrNone
			}
			if got, e := Find(d, name); !sameBucket(got, want) || e != wantE {
				t.Errorf("Find of %.80q in depot %d: %s, %d", name, i, brief(got), e)
			}
		}
	}
	for i, d := range badDepots() {
		for _, name := range []string{"bin", "box", "zzz", "", "bbb"} {
			if got, e := Find(d, name); !sameBucket(got, api.Bucket{}) || e != api.ErrArg {
				t.Errorf("Find of %q in bad depot %d: %s, %d", name, i, brief(got), e)
			}
		}
	}
}

// TestSame: P10.1, each part of one counts, also of those that may not be.
func TestSame(t *testing.T) {
	all := append(goodDepots(), badDepots()...)
	for _, a := range all {
		for _, b := range all {
			if len(a.L)+len(b.L) < 200 && Same(a, b) != same(a, b) {
				t.Errorf("Same(%s, %s): %v", brief(a), brief(b), Same(a, b))
			}
		}
		if !Same(a, deep(a)) {
			t.Errorf("not the same as itself: %s", brief(a))
		}
	}
	for i, change := range []func(d *api.Depot){
		func(d *api.Depot) { d.Now++ },
		func(d *api.Depot) { d.Now += 1 << 32 },
		func(d *api.Depot) { d.L = d.L[:3] },
		func(d *api.Depot) { d.L = d.L[1:] },
		func(d *api.Depot) { d.L = nil },
		func(d *api.Depot) { d.L = append(d.L, api.Bucket{Name: "zzz"}) },
		func(d *api.Depot) { d.L[0], d.L[1] = d.L[1], d.L[0] },
		func(d *api.Depot) { d.L[3].Name = "vet" },
		func(d *api.Depot) { d.L[3].State = api.On },
		func(d *api.Depot) { d.L[3].Last++ },
		func(d *api.Depot) { d.L[0].L[0].Key = "aa" },
		func(d *api.Depot) { d.L[1].L[0].L[3].Data = "ONE" },
		func(d *api.Depot) { d.L[2].L[1].L[0].Mark = false },
		func(d *api.Depot) { d.L[0].L[1].L[0].At-- },
		func(d *api.Depot) { d.L[1].L[0].L[0].ID++ },
		func(d *api.Depot) { d.L[1].Up[0].L[1].Data = "Second" },
		func(d *api.Depot) { d.L[2].Up[2].ID++ },
		func(d *api.Depot) { d.L[0].Up = d.L[0].Up[:1] },
	} {
		other := some()
		change(&other)
		if Same(some(), other) || Same(other, some()) {
			t.Errorf("Same %d: %s", i, brief(other))
		}
	}
	if !Same(api.Depot{}, api.Depot{L: []api.Bucket{}}) {
		t.Error("a nil list isn't one without elements")
	}
}

// TestDo: P10.2 and P10.4, each kind, at all depots and buckets.
func TestDo(t *testing.T) {
	for _, d := range goodDepots() {
		for _, name := range someBuckets() {
			for _, a := range someAsks(name) {
				holdOne(t, d, a)
			}
		}
	}
}

// TestCopy: P10.2 and P10.4, from each bucket to each, at versions that are there, Marks, and what is not.
func TestCopy(t *testing.T) {
	for _, d := range []api.Depot{{}, some(), six(), atLimits()} {
		for _, name := range []string{"bin", "box", "tub", "vat", "l-keys", "l-octets", "l-uploads", "l-versions", "none", ""} {
			for _, a := range someCopies(name) {
				holdOne(t, d, a)
			}
		}
	}
}

// TestKinds: P10.2, what is no kind, with all that else is asked.
func TestKinds(t *testing.T) {
	for _, kind := range []int{math.MinInt, -1, 0, 13, 14, 1<<32 + 1, 1<<32 + 12, math.MaxInt} {
		for _, d := range goodDepots() {
			a := api.Ask{Kind: kind, Bucket: "box", Key: "a", Data: "x", To: "bin", As: "a", ID: 5, N: 1, Pieces: pieces(threeParts()...)}
			if got, told := Do(d, a); !same(got, d) || told != (api.Told{E: api.ErrArg}) {
				t.Errorf("Do of the kind %d: %s, %v", kind, brief(got), told)
			}
		}
	}
}

// ok: is this told, and is the depot then what some becomes by a change?
func ok(t *testing.T, a api.Ask, want api.Told, change func(d *api.Depot)) {
	t.Helper()
	wanted := some()
	change(&wanted)
	if got, told := Do(some(), a); !same(got, wanted) || told != want {
		t.Errorf("Do(%s): %s, %v, want %s, %v", brief(a), brief(got), told, brief(wanted), want)
	}
}

// TestDoByHand: P10.2, what each kind does, and tells; what it is not asked for it doesn't look at.
func TestDoByHand(t *testing.T) {
	ok(t, api.Ask{Kind: 1, Bucket: "aaa"}, api.Told{}, func(d *api.Depot) { d.L = slices.Insert(d.L, 0, api.Bucket{Name: "aaa"}) })
	ok(t, api.Ask{Kind: 1, Bucket: "boy", Key: "\x7f", ID: 9, N: -1}, api.Told{}, func(d *api.Depot) { d.L = slices.Insert(d.L, 2, api.Bucket{Name: "boy"}) })
	ok(t, api.Ask{Kind: 1, Bucket: "zzz"}, api.Told{}, func(d *api.Depot) { d.L = append(d.L, api.Bucket{Name: "zzz"}) })
	ok(t, api.Ask{Kind: 2, Bucket: "vat"}, api.Told{}, func(d *api.Depot) { d.L = d.L[:3] })
	ok(t, api.Ask{Kind: 3, Bucket: "bin", N: api.Held}, api.Told{}, func(d *api.Depot) { d.L[0].State = api.Held })
	ok(t, api.Ask{Kind: 3, Bucket: "tub", N: api.On, ID: 5}, api.Told{}, func(d *api.Depot) { d.L[2].State = api.On })
	ok(t, api.Ask{Kind: 4, Bucket: "bin", Key: "a", Data: "123456789"}, api.Told{Tag: "e3069283"}, func(d *api.Depot) {
		d.L[0].L[0].L = []api.Version{{Data: "123456789", At: 8}}
	})
	ok(t, api.Ask{Kind: 4, Bucket: "box", Key: "d"}, api.Told{ID: 10, Tag: "00000000"}, func(d *api.Depot) {
		d.L[1].Last, d.L[1].L = 10, append(d.L[1].L, entry("d", api.Version{ID: 10, At: 8}))
	})
	ok(t, api.Ask{Kind: 5, Bucket: "box", Key: "b", Data: "x", N: 7}, api.Told{ID: 10}, func(d *api.Depot) {
		d.L[1].Last, d.L[1].L[1].L = 10, []api.Version{{ID: 10, Mark: true, At: 8}, {ID: 8, Mark: true, At: 7}}
	})
	ok(t, api.Ask{Kind: 5, Bucket: "bin", Key: "a"}, api.Told{}, func(d *api.Depot) { d.L[0].L = d.L[0].L[1:] })
	ok(t, api.Ask{Kind: 5, Bucket: "tub", Key: "c"}, api.Told{}, func(d *api.Depot) {
		d.L[2].L[2].L = slices.Insert(d.L[2].L[2].L, 0, api.Version{Mark: true, At: 8})
	})
	ok(t, api.Ask{Kind: 6, Bucket: "box", Key: "a", ID: 0}, api.Told{}, func(d *api.Depot) { d.L[1].L[0].L = slices.Delete(d.L[1].L[0].L, 1, 2) })
	ok(t, api.Ask{Kind: 6, Bucket: "tub", Key: "a", ID: 5, Data: "x"}, api.Told{}, func(d *api.Depot) { d.L[2].L[0].L = d.L[2].L[0].L[1:] })
	ok(t, api.Ask{Kind: 7, Bucket: "vat", Key: "k"}, api.Told{ID: 5}, func(d *api.Depot) { d.L[3].Last, d.L[3].Up = 5, []api.Upload{up(5, "k")} })
	ok(t, api.Ask{Kind: 8, Bucket: "bin", ID: 7, N: 4, Data: "123456789"}, api.Told{Tag: "e3069283"}, func(d *api.Depot) {
		d.L[0].Up[1].L = []api.Part{{N: 4, Data: "123456789"}}
	})
	ok(t, api.Ask{Kind: 9, Bucket: "box", ID: 7}, api.Told{}, func(d *api.Depot) { d.L[1].Up = slices.Delete(d.L[1].Up, 1, 2) })
	ok(t, api.Ask{Kind: 10, Bucket: "box", ID: 3, Pieces: pieces(threeParts()...)}, api.Told{ID: 10, Tag: manyText("first ", "second", "end")}, func(d *api.Depot) {
		d.L[1].Last, d.L[1].Up = 10, d.L[1].Up[1:]
		d.L[1].L[0].L = slices.Insert(d.L[1].L[0].L, 0, api.Version{ID: 10, Data: "first secondend", At: 8})
	})
	ok(t, api.Ask{Kind: 10, Bucket: "bin", ID: 3, Pieces: pieces(threeParts()[2])}, api.Told{Tag: manyText("end")}, func(d *api.Depot) {
		d.L[0].Up = d.L[0].Up[1:]
		d.L[0].L = slices.Insert(d.L[0].L, 1, entry("b", api.Version{Data: "end", At: 8}))
	})
	ok(t, api.Ask{Kind: 12, N: 0, Bucket: "none"}, api.Told{}, func(d *api.Depot) {})
	ok(t, api.Ask{Kind: 12, N: 5}, api.Told{}, func(d *api.Depot) { d.Now = 13 })
	ok(t, api.Ask{Kind: 12, N: mostTime - 8}, api.Told{}, func(d *api.Depot) { d.Now = mostTime })
}

// TestCopyByHand: P10.2, the latest, and one of an ID, to another bucket, and to the same one.
func TestCopyByHand(t *testing.T) {
	ok(t, api.Ask{Kind: 11, Bucket: "box", Key: "a", To: "vat", As: "new"}, api.Told{Tag: tagText("the fifth")}, func(d *api.Depot) {
		d.L[3].L = []api.Entry{entry("new", api.Version{Data: "the fifth", At: 8})}
	})
	ok(t, api.Ask{Kind: 11, Bucket: "bin", Key: "a", To: "box", As: "b", Data: "other"}, api.Told{ID: 10, Tag: tagText("of a")}, func(d *api.Depot) {
		d.L[1].Last, d.L[1].L[1].L = 10, []api.Version{{ID: 10, Data: "of a", At: 8}, {ID: 8, Mark: true, At: 7}}
	})
	ok(t, api.Ask{Kind: 11, Bucket: "box", Key: "a", ID: 1, To: "box", As: "a"}, api.Told{ID: 10, Tag: tagText("one")}, func(d *api.Depot) {
		d.L[1].Last, d.L[1].L[0].L = 10, slices.Insert(d.L[1].L[0].L, 0, api.Version{ID: 10, Data: "one", At: 8})
	})
	ok(t, api.Ask{Kind: 11, Bucket: "box", Key: "c", ID: 4, To: "bin", As: "a"}, api.Told{Tag: "00000000"}, func(d *api.Depot) {
		d.L[0].L[0].L = []api.Version{{At: 8}}
	})
	ok(t, api.Ask{Kind: 11, Bucket: "bin", Key: "c", To: "bin", As: "c"}, api.Told{Tag: "00000000"}, func(d *api.Depot) {
		d.L[0].L[1].L = []api.Version{{At: 8}}
	})
}

// refusal is what is asked of a depot, and refused.
type refusal struct {
	d    api.Depot
	a    api.Ask
	want api.Errno
}

// TestRefusals: P10.2, each error, ahead of those that are named behind it; nothing changes, and nothing else is told.
func TestRefusals(t *testing.T) {
	full := six()
	full.Now, full.L[3] = 8, box()
	slices.SortFunc(full.L, func(x, y api.Bucket) int { return strings.Compare(x.Name, y.Name) })
	late := api.Depot{Now: mostTime}
	whole := api.Ask{Kind: 10, Bucket: "box", ID: 3, Pieces: pieces(threeParts()...)}
	from := func(a api.Ask, name string) api.Ask {
		a.Bucket = name
		return a
	}
	for i, r := range []refusal{
		{six(), api.Ask{Kind: 1, Bucket: ""}, api.ErrArg}, {six(), api.Ask{Kind: 1, Bucket: "bb"}, api.ErrArg}, {six(), api.Ask{Kind: 1, Bucket: "bbb-"}, api.ErrArg}, {six(), api.Ask{Kind: 1, Bucket: "bbb"}, api.ErrThere}, {six(), api.Ask{Kind: 1, Bucket: "lll"}, api.ErrThere}, {six(), api.Ask{Kind: 1, Bucket: "aaa"}, api.ErrLarge}, {six(), api.Ask{Kind: 1, Bucket: "mmm"}, api.ErrLarge}, {some(), api.Ask{Kind: 1, Bucket: "tub"}, api.ErrThere},
		{some(), api.Ask{Kind: 2, Bucket: "none"}, api.ErrNone}, {some(), api.Ask{Kind: 2, Bucket: ""}, api.ErrNone}, {some(), api.Ask{Kind: 2, Bucket: "box"}, api.ErrState}, {some(), api.Ask{Kind: 2, Bucket: "bin"}, api.ErrState}, {api.Depot{L: []api.Bucket{{Name: "box", Last: 1, Up: []api.Upload{up(1, "a")}}}}, api.Ask{Kind: 2, Bucket: "box"}, api.ErrState}, {api.Depot{L: []api.Bucket{{Name: "box", State: api.On, Last: 1, L: []api.Entry{entry("a", api.Version{ID: 1, Mark: true})}}}}, api.Ask{Kind: 2, Bucket: "box"}, api.ErrState},
		{some(), api.Ask{Kind: 3, Bucket: "none", N: 9}, api.ErrNone}, {some(), api.Ask{Kind: 3, Bucket: "box", N: 9}, api.ErrArg}, {some(), api.Ask{Kind: 3, Bucket: "box", N: 0}, api.ErrState},
		{some(), api.Ask{Kind: 4, Bucket: "", Key: ""}, api.ErrNone}, {some(), api.Ask{Kind: 4, Bucket: "none", Key: "a"}, api.ErrNone}, {some(), api.Ask{Kind: 4, Bucket: "box", Key: ""}, api.ErrArg}, {some(), api.Ask{Kind: 4, Bucket: "box", Key: "a", Data: octetsOf(2001)}, api.ErrArg}, {atLimits(), api.Ask{Kind: 4, Bucket: "l-octets", Key: "a", Data: "x"}, api.ErrLarge}, {atLimits(), api.Ask{Kind: 4, Bucket: "l-versions", Key: "a"}, api.ErrLarge}, {atLimits(), api.Ask{Kind: 4, Bucket: "l-keys", Key: "a"}, api.ErrLarge}, {atLimits(), api.Ask{Kind: 4, Bucket: "l-numbers", Key: "a"}, api.ErrLarge},
		{some(), api.Ask{Kind: 5, Bucket: "none", Key: ""}, api.ErrNone}, {some(), api.Ask{Kind: 5, Bucket: "bin", Key: "b"}, api.ErrNone}, {some(), api.Ask{Kind: 5, Bucket: "bin", Key: ""}, api.ErrArg}, {atLimits(), api.Ask{Kind: 5, Bucket: "l-numbers", Key: "a"}, api.ErrLarge},
		{some(), api.Ask{Kind: 6, Bucket: "none", Key: ""}, api.ErrNone}, {some(), api.Ask{Kind: 6, Bucket: "box", Key: "", ID: 5}, api.ErrArg}, {some(), api.Ask{Kind: 6, Bucket: "box", Key: "a", ID: 4}, api.ErrNone}, {some(), api.Ask{Kind: 6, Bucket: "box", Key: "b"}, api.ErrNone},
		{some(), api.Ask{Kind: 7, Bucket: "none", Key: ""}, api.ErrNone}, {some(), api.Ask{Kind: 7, Bucket: "box", Key: ""}, api.ErrArg}, {atLimits(), api.Ask{Kind: 7, Bucket: "l-uploads", Key: "a"}, api.ErrLarge}, {atLimits(), api.Ask{Kind: 7, Bucket: "l-numbers", Key: "a"}, api.ErrLarge},
		{some(), api.Ask{Kind: 8, Bucket: "none", N: 0}, api.ErrNone}, {some(), api.Ask{Kind: 8, Bucket: "box", ID: 4, N: 0}, api.ErrArg}, {some(), api.Ask{Kind: 8, Bucket: "box", ID: 4, N: 1}, api.ErrNone}, {atLimits(), api.Ask{Kind: 8, Bucket: "l-uploads", ID: 3, N: 31}, api.ErrLarge}, {atLimits(), api.Ask{Kind: 8, Bucket: "l-octets", ID: 3, N: 1, Data: "x"}, api.ErrLarge},
		{some(), api.Ask{Kind: 9, Bucket: "none"}, api.ErrNone}, {some(), api.Ask{Kind: 9, Bucket: "box", ID: 4}, api.ErrNone},
		{some(), from(whole, "none"), api.ErrNone}, {some(), from(whole, "vat"), api.ErrNone}, {some(), api.Ask{Kind: 10, Bucket: "box", ID: 3}, api.ErrArg}, {some(), api.Ask{Kind: 10, Bucket: "box", ID: 3, Pieces: []api.Piece{{N: 2}, {N: 1}}}, api.ErrOrder}, {some(), api.Ask{Kind: 10, Bucket: "box", ID: 7, Pieces: []api.Piece{{N: 1, Tag: tagOf("four")}, {N: 2, Tag: tagOf("second")}}}, api.ErrShort},
		{some(), api.Ask{Kind: 11, Bucket: "none", Key: "", To: "", As: ""}, api.ErrNone}, {some(), api.Ask{Kind: 11, Bucket: "box", Key: "", To: "none"}, api.ErrArg}, {some(), api.Ask{Kind: 11, Bucket: "box", Key: "d", To: "none"}, api.ErrNone}, {some(), api.Ask{Kind: 11, Bucket: "box", Key: "b", To: "none"}, api.ErrMark}, {some(), api.Ask{Kind: 11, Bucket: "box", Key: "b", To: "vat", As: "a"}, api.ErrMark}, {some(), api.Ask{Kind: 11, Bucket: "box", Key: "a", ID: 2, To: "vat", As: "a"}, api.ErrMark}, {some(), api.Ask{Kind: 11, Bucket: "box", Key: "a", ID: 4, To: "vat", As: "a"}, api.ErrNone}, {some(), api.Ask{Kind: 11, Bucket: "box", Key: "a", To: "none", As: ""}, api.ErrNone}, {some(), api.Ask{Kind: 11, Bucket: "box", Key: "a", To: "vat", As: ""}, api.ErrArg}, {atLimits(), api.Ask{Kind: 11, Bucket: "l-keys", Key: "k10", To: "l-octets", As: "k09"}, api.ErrLarge}, {atLimits(), api.Ask{Kind: 11, Bucket: "l-octets", Key: "k10", To: "l-keys", As: "new"}, api.ErrLarge},
		{some(), api.Ask{Kind: 12, N: -1}, api.ErrArg}, {some(), api.Ask{Kind: 12, N: math.MinInt}, api.ErrArg}, {some(), api.Ask{Kind: 12, N: mostTime - 7}, api.ErrArg}, {some(), api.Ask{Kind: 12, N: math.MaxInt}, api.ErrArg}, {late, api.Ask{Kind: 12, N: 1}, api.ErrArg}, {late, api.Ask{Kind: 12, N: math.MaxInt}, api.ErrArg}, {api.Depot{}, api.Ask{Kind: 12, N: mostTime + 1}, api.ErrArg},
		{full, api.Ask{Kind: 0, Bucket: "box", Key: "a"}, api.ErrArg}, {full, api.Ask{Kind: 1, Bucket: "box"}, api.ErrThere}, {full, api.Ask{Kind: 1, Bucket: "boy"}, api.ErrLarge},
	} {
		was := deep(r.d)
		if got, told := Do(r.d, r.a); !same(got, was) || told != (api.Told{E: r.want}) {
			t.Errorf("%d: Do(%s): %s, %v, want %d", i, brief(r.a), brief(got), told, r.want)
		}
	}
	if got, told := Do(late, api.Ask{Kind: 12}); got.Now != mostTime || told != (api.Told{}) {
		t.Errorf("Tick of nothing, at the end of all time: %v, %v", got, told)
	}
}

// TestBadDepotsAreRefused: P10.1 to P10.3, ahead of all other errors; the depot is as it is.
func TestBadDepotsAreRefused(t *testing.T) {
	for i, d := range badDepots() {
		was := deep(d)
		for kind := range 15 {
			for _, name := range []string{"bin", "vat", "none", ""} {
				a := api.Ask{Kind: kind - 1, Bucket: name, Key: "a", Data: "x", To: "vat", As: "new", ID: 3, N: 1, Pieces: pieces(threeParts()...)}
				if len(d.L) > 1000 && name != "vat" {
					continue
				}
				if got, told := Do(d, a); !same(got, was) || told != (api.Told{E: api.ErrArg}) {
					t.Errorf("bad depot %d: Do(%s): %s, %v", i, brief(a), brief(got), told)
				}
				if s, told := Read(d, a, api.Span{Open: true}); s != "" || told != (api.Told{E: api.ErrArg}) {
					t.Errorf("bad depot %d: Read(%s): %q, %v", i, brief(a), s, told)
				}
			}
		}
	}
}

// someSpans are spans of all kinds, that may be, and that may not.
func someSpans() []api.Span {
	var all []api.Span
	for _, from := range []int{math.MinInt, -1, 0, 1, 3, 8, 9, 1<<40 - 1, 1 << 40, math.MaxInt} {
		for _, to := range []int{-1, 0, 1, 4, 8, 9, 1<<40 - 1, 1 << 40, math.MaxInt} {
			all = append(all, api.Span{From: from, To: to}, api.Span{From: from, To: to, Open: true}, api.Span{From: from, To: to, Back: true}, api.Span{From: from, To: to, Open: true, Back: true})
		}
	}
	return all
}

// TestRead: P10.3, at all depots, buckets, keys, IDs and spans; what is asked for else isn't looked at, and nothing changes.
func TestRead(t *testing.T) {
	for _, d := range []api.Depot{{}, some(), six(), atLimits()} {
		was := deep(d)
		for _, name := range someBuckets() {
			for _, key := range someKeys() {
				for _, id := range someIDs() {
					spans := someSpans()
					// Where there are no octets, a few of each kind tell as much.
					if (key != "a" && key != "c") || !slices.Contains([]string{"bin", "box", "tub"}, name) {
						spans = spans[76:88]
					}
					for i, s := range spans {
						a := api.Ask{Kind: i - 20, Bucket: name, Key: key, ID: id, N: -i, To: "none", Data: "x"}
						got, told := Read(d, a, s)
						if want, wantTold := wantRead(was, a, s); got != want || told != wantTold {
							t.Fatalf("Read(%s, %s, %v): %q, %v, want %q, %v", brief(d), brief(a), s, got, told, want, wantTold)
						}
					}
				}
			}
		}
		if !same(d, was) {
			t.Fatalf("Read: %s is %s now", brief(was), brief(d))
		}
	}
}

// TestReadByHand: P10.3, octets of each kind of spans, and each error, ahead of those that are named behind it.
func TestReadByHand(t *testing.T) {
	all, wrong := api.Span{Open: true}, api.Span{From: 2, To: 1}
	fifth := api.Told{ID: 5, Tag: tagText("the fifth")}
	for i, c := range []struct {
		bucket, key string
		id          uint64
		s           api.Span
		want        string
		told        api.Told
	}{
		{"box", "a", 0, all, "the fifth", fifth}, {"box", "a", 5, all, "the fifth", fifth}, {"box", "a", 0, api.Span{}, "t", fifth}, {"box", "a", 0, api.Span{From: 4, To: 6}, "fif", fifth}, {"box", "a", 5, api.Span{From: 8, To: 1<<40 - 1}, "h", fifth}, {"box", "a", 0, api.Span{From: 4, Open: true}, "fifth", fifth}, {"box", "a", 0, api.Span{To: 3, Back: true}, "fth", fifth}, {"box", "a", 0, api.Span{To: 1 << 39, Back: true}, "the fifth", fifth},
		{"box", "a", 1, all, "one", api.Told{ID: 1, Tag: tagText("one")}}, {"bin", "a", 0, all, "of a", api.Told{Tag: tagText("of a")}}, {"bin", "c", 0, all, "", api.Told{Tag: "00000000"}}, {"box", "c", 4, all, "", api.Told{ID: 4, Tag: "00000000"}}, {"tub", "b", 8, api.Span{To: 1, Back: true}, "t", api.Told{ID: 8, Tag: tagText("eight")}},
		{"none", "", 0, wrong, "", api.Told{E: api.ErrNone}}, {"", "a", 0, all, "", api.Told{E: api.ErrNone}}, {"box", "", 0, wrong, "", api.Told{E: api.ErrArg}}, {"box", "", 5, all, "", api.Told{E: api.ErrArg}}, {"box", "d", 0, wrong, "", api.Told{E: api.ErrNone}}, {"box", "a", 4, wrong, "", api.Told{E: api.ErrNone}}, {"box", "d", 5, all, "", api.Told{E: api.ErrNone}}, {"vat", "a", 0, all, "", api.Told{E: api.ErrNone}},
		{"box", "b", 0, wrong, "", api.Told{ID: 8, E: api.ErrMark}}, {"box", "c", 0, all, "", api.Told{ID: 9, E: api.ErrMark}}, {"box", "a", 2, api.Span{From: 9, To: 9}, "", api.Told{ID: 2, E: api.ErrMark}}, {"tub", "b", 0, all, "", api.Told{E: api.ErrMark}},
		{"box", "a", 0, wrong, "", api.Told{E: api.ErrArg}}, {"bin", "c", 0, wrong, "", api.Told{E: api.ErrArg}}, {"box", "a", 0, api.Span{Open: true, Back: true}, "", api.Told{E: api.ErrArg}}, {"bin", "c", 0, api.Span{Open: true, To: 1}, "", api.Told{E: api.ErrArg}}, {"bin", "c", 0, api.Span{From: -1, Open: true}, "", api.Told{E: api.ErrArg}}, {"box", "a", 0, api.Span{From: 9, To: 9}, "", api.Told{E: api.ErrRange}}, {"box", "a", 0, api.Span{From: 9, Open: true}, "", api.Told{E: api.ErrRange}}, {"box", "a", 0, api.Span{Back: true}, "", api.Told{E: api.ErrRange}},
		{"bin", "c", 0, api.Span{}, "", api.Told{E: api.ErrRange}}, {"bin", "c", 0, api.Span{To: 5, Back: true}, "", api.Told{E: api.ErrRange}}, {"bin", "c", 0, api.Span{From: 1, Open: true}, "", api.Told{E: api.ErrRange}},
	} {
		if got, told := Read(some(), api.Ask{Bucket: c.bucket, Key: c.key, ID: c.id}, c.s); got != c.want || told != c.told {
			t.Errorf("%d: Read of %s, %s, %d, %v: %q, %v", i, c.bucket, c.key, c.id, c.s, got, told)
		}
	}
}

// roomy is the depot with room behind all lists.
func roomy(d api.Depot) api.Depot {
	d = deep(d)
	d.L = slices.Grow(d.L, 5)
	for i := range d.L {
		b := &d.L[i]
		b.L, b.Up = slices.Grow(b.L, 5), slices.Grow(b.Up, 5)
		for i := range b.L {
			b.L[i].L = slices.Grow(b.L[i].L, 5)
		}
		for i := range b.Up {
			b.Up[i].L = slices.Grow(b.Up[i].L, 5)
		}
	}
	return d
}

// wholeRoom is the depot with what stands in the room behind its lists.
func wholeRoom(d api.Depot) api.Depot {
	d.L = slices.Clone(d.L[:cap(d.L)])
	for i := range d.L {
		b := &d.L[i]
		b.L, b.Up = slices.Clone(b.L[:cap(b.L)]), slices.Clone(b.Up[:cap(b.Up)])
		for i, e := range b.L {
			b.L[i].L = slices.Clone(e.L[:cap(e.L)])
		}
		for i, u := range b.Up {
			b.Up[i].L = slices.Clone(u.L[:cap(u.L)])
		}
	}
	return d
}

// scribble writes over all that a bucket has, and what room there is behind its lists.
func scribble(b api.Bucket) {
	for _, e := range b.L[:cap(b.L)] {
		for i := range e.L[:cap(e.L)] {
			e.L[:cap(e.L)][i] = api.Version{ID: 999, Data: "scribble"}
		}
	}
	for _, u := range b.Up[:cap(b.Up)] {
		for i := range u.L[:cap(u.L)] {
			u.L[:cap(u.L)][i] = api.Part{N: 999, Data: "scribble"}
		}
	}
	for i := range b.L[:cap(b.L)] {
		b.L[:cap(b.L)][i] = entry("scribble")
	}
	for i := range b.Up[:cap(b.Up)] {
		b.Up[:cap(b.Up)][i] = up(999, "scribble")
	}
}

// allKinds is one of each kind that goes at some, and some that are refused.
func allKinds() []api.Ask {
	return []api.Ask{
		{Kind: 1, Bucket: "aaa"}, {Kind: 1, Bucket: "zzz"}, {Kind: 1, Bucket: "box"}, {Kind: 2, Bucket: "vat"}, {Kind: 2, Bucket: "box"}, {Kind: 3, Bucket: "bin", N: 1}, {Kind: 4, Bucket: "box", Key: "a", Data: "x"}, {Kind: 4, Bucket: "box", Key: "aa", Data: "x"}, {Kind: 5, Bucket: "bin", Key: "a"}, {Kind: 5, Bucket: "box", Key: "a"}, {Kind: 6, Bucket: "tub", Key: "a", ID: 5},
		{Kind: 7, Bucket: "bin", Key: "a"}, {Kind: 8, Bucket: "bin", ID: 3, N: 3}, {Kind: 9, Bucket: "box", ID: 3}, {Kind: 10, Bucket: "tub", ID: 3, Pieces: pieces(threeParts()...)}, {Kind: 10, Bucket: "tub", ID: 3}, {Kind: 11, Bucket: "box", Key: "a", To: "bin", As: "b"}, {Kind: 11, Bucket: "box", Key: "b", To: "bin", As: "b"}, {Kind: 12, N: 4}, {Kind: 12, N: -4}, {Kind: 13, Bucket: "box"},
	}
}

// TestNewMemory: P10.1 and P10.2, what is answered, also beside an error, shares nothing with what was handed in, even where there is room behind it.
func TestNewMemory(t *testing.T) {
	bad := some()
	bad.Now = -1
	for i, d := range []api.Depot{some(), bad} {
		d := roomy(d)
		was := wholeRoom(d)
		for _, a := range allKinds() {
			got, _ := Do(d, a)
			for _, b := range got.L {
				scribble(b)
			}
			for i := range got.L[:cap(got.L)] {
				got.L[:cap(got.L)][i] = api.Bucket{Name: "scribble"}
			}
			if !same(wholeRoom(d), was) {
				t.Fatalf("depot %d: Do(%s): %s is %s now", i, brief(a), brief(was), brief(wholeRoom(d)))
			}
		}
		for _, b := range d.L {
			got, _ := Find(d, b.Name)
			scribble(got)
			if !same(wholeRoom(d), was) {
				t.Fatalf("depot %d: Find(%s): %s is %s now", i, b.Name, brief(was), brief(wholeRoom(d)))
			}
		}
	}
}

// TestListsApart: P10.2 and P10.4, no two lists of an answer share memory, though those of the depot that was handed in do, so that what is done to one bucket is done to no other one.
func TestListsApart(t *testing.T) {
	for _, a := range allKinds() {
		d := some()
		d.L[2].L[0].L, d.L[2].L[2].L, d.L[2].Up = d.L[1].L[0].L, d.L[1].L[2].L, d.L[1].Up
		got, _ := Do(d, a)
		seenVersions, seenParts, seenUploads := map[*api.Version]bool{}, map[*api.Part]bool{}, map[*api.Upload]bool{}
		for _, b := range got.L {
			for _, e := range b.L {
				if seenVersions[&e.L[0]] {
					t.Errorf("Do(%s): versions of %s, %s are another key's, too", brief(a), b.Name, e.Key)
				}
				seenVersions[&e.L[0]] = true
			}
			if len(b.Up) > 0 && seenUploads[&b.Up[0]] {
				t.Errorf("Do(%s): uploads of %s are another bucket's, too", brief(a), b.Name)
			}
			for i, u := range b.Up {
				seenUploads[&b.Up[i]] = true
				if len(u.L) > 0 && seenParts[&u.L[0]] {
					t.Errorf("Do(%s): parts of %s, %d are another upload's, too", brief(a), b.Name, u.ID)
				}
				if len(u.L) > 0 {
					seenParts[&u.L[0]] = true
				}
			}
		}
	}
}

// chanceUpload is an upload of a bucket by chance, or none.
func chanceUpload(d api.Depot, name string, chance func(n int) int) api.Upload {
	b := shelfOf(d).all[name]
	if len(b.Up) == 0 {
		return api.Upload{}
	}
	return b.Up[chance(len(b.Up))]
}

// chanceAsk is what is asked by chance, mostly something that goes.
func chanceAsk(d api.Depot, chance func(n int) int) api.Ask {
	names := []string{"aaa", "bbb", "ccc", "ddd", "eee", "fff", "ggg"}
	name := names[chance(7)]
	key := string([]byte{byte('a' + chance(5))})
	if chance(50) == 0 {
		key = ""
	}
	a := api.Ask{Kind: 1 + chance(12), Bucket: name, Key: key, To: names[chance(7)], As: string([]byte{byte('a' + chance(5))}), N: 1 + chance(8), Data: octetsOf(chance(30))}
	if chance(10) == 0 {
		a.Data = octetsOf(chance(2002))
	}
	u := chanceUpload(d, name, chance)
	b := shelfOf(d).all[name]
	// What is in a bucket is seldom all taken away, so a new one is taken away at times, as long as it is empty.
	if a.Kind == api.Put && bucket.Empty(b) && chance(2) == 0 {
		a.Kind = api.Remove
	}
	switch a.Kind {
	case api.Turn:
		a.N = chance(4)
	case api.Drop, api.Copy:
		a.ID = b.Last - min(b.Last, uint64(chance(10)))
		if chance(3) == 0 {
			a.ID = 0
		}
	case api.Lay, api.Abort:
		a.ID = u.ID
	case api.Whole:
		a.ID, a.Pieces = u.ID, pieces(u.L[chance(len(u.L)+1):]...)
	}
	return a
}

// TestManySteps: P10.2 to P10.4, along many steps, each held against the document's words: a depot that may be stays one, and what is done to a bucket changes no other one.
func TestManySteps(t *testing.T) {
	for start := range 4 {
		seed := uint32(start)
		chance := func(n int) int {
			seed = seed*1664525 + 1013904223
			return int(seed >> 8 % uint32(n))
		}
		d := api.Depot{}
		went := map[int]int{}
		for range 3000 {
			a := chanceAsk(d, chance)
			next, told := holdOne(t, d, a)
			if told.E == api.OK {
				went[a.Kind]++
			}
			d = next
			s := api.Span{From: chance(3), To: chance(9)}
			got, told := Read(d, a, s)
			if want, wantTold := wantRead(d, a, s); got != want || told != wantTold {
				t.Fatalf("Read(%s, %s, %v): %q, %v, want %q, %v", brief(d), brief(a), s, got, told, want, wantTold)
			}
		}
		if len(went) != 12 {
			t.Errorf("not each kind went: %v", went)
		}
	}
}

// do is the depot behind what is asked, which must go.
func do(t *testing.T, d api.Depot, a api.Ask) (api.Depot, api.Told) {
	t.Helper()
	d, told := Do(d, a)
	if told.E != api.OK {
		t.Fatalf("Do(%s): %d", brief(a), told.E)
	}
	return d, told
}

// TestExamples: the chapter's examples.
func TestExamples(t *testing.T) {
	d, _ := do(t, api.Depot{}, api.Ask{Kind: api.Make, Bucket: "box"})
	d, put := do(t, d, api.Ask{Kind: api.Put, Bucket: "box", Key: "a", Data: "octets of a"})
	if put.Tag != tagText("octets of a") {
		t.Errorf("Put: %v", put)
	}
	if s, told := Read(d, api.Ask{Bucket: "box", Key: "a"}, api.Span{Open: true}); s != "octets of a" || told != put {
		t.Errorf("Read: %q, %v", s, told)
	}
	d, _ = do(t, d, api.Ask{Kind: api.Copy, Bucket: "box", Key: "a", To: "box", As: "b"})
	if s, told := Read(d, api.Ask{Bucket: "box", Key: "b"}, api.Span{Open: true}); s != "octets of a" || told != put {
		t.Errorf("Read of a copy: %q, %v", s, told)
	}
	if got, told := Do(d, api.Ask{Kind: api.Remove, Bucket: "box"}); !same(got, d) || told != (api.Told{E: api.ErrState}) {
		t.Errorf("Remove of a bucket that is not empty: %v, %v", got, told)
	}
}
