package items

import (
	"encoding/binary"
	"fmt"
	"math"
	"slices"
	"strings"
	"testing"

	"cellarer/api"
	"cellarer/depot"
)

// The document's limits, as numbers of their own.
const (
	mostID   = 281474976710655
	mostTime = 1099511627775
)

// brief is the beginning of how a value is told.
func brief(x any) string { return fmt.Sprintf("%.600s", fmt.Sprintf("%q", fmt.Sprint(x))) }

// octetsOf is so many octets.
func octetsOf(n int) string { return strings.Repeat("d", n) }

// eight is a number's octets, the lowest first.
func eight(n uint64) string { return string(binary.LittleEndian.AppendUint64(nil, n)) }

// list is a list's octets.
func list(l ...string) string {
	out := binary.LittleEndian.AppendUint16(nil, uint16(len(l)))
	for _, s := range l {
		out = append(binary.LittleEndian.AppendUint16(out, uint16(len(s))), s...)
	}
	return string(out)
}

// item is an item of a name, and of a list as its value.
func item(name string, l ...string) api.Item { return api.Item{Name: name, Val: list(l...)} }

// version is the texts of a version's item.
func version(behind, at, mark uint64, data string) []string {
	return []string{eight(behind), eight(at), eight(mark), data}
}

// rising is the items, rising by their names; those of one name stay in order.
func rising(l []api.Item) []api.Item {
	l = slices.Clone(l)
	slices.SortStableFunc(l, func(x, y api.Item) int { return strings.Compare(x.Name, y.Name) })
	return l
}

// wantItems is a depot's items, as the document's words say it.
func wantItems(d api.Depot) []api.Item {
	l := []api.Item{item("t", eight(uint64(d.Now)))}
	for _, b := range d.L {
		l = append(l, item("b"+b.Name, eight(uint64(b.State)), eight(b.Last)))
		for _, e := range b.L {
			for i, v := range e.L {
				mark := uint64(0)
				if v.Mark {
					mark = 1
				}
				name := "v" + b.Name + "\n" + e.Key + "\n" + eight(v.ID)
				l = append(l, item(name, version(uint64(len(e.L[i+1:])), uint64(v.At), mark, v.Data)...))
			}
		}
		for _, u := range b.Up {
			l = append(l, item("u"+b.Name+"\n"+eight(u.ID), u.Key))
			for _, p := range u.L {
				l = append(l, item("p"+b.Name+"\n"+eight(u.ID)+eight(uint64(p.N)), p.Data))
			}
		}
	}
	return rising(l)
}

// entry is an entry.
func entry(key string, l ...api.Version) api.Entry { return api.Entry{Key: key, L: l} }

// up is an upload.
func up(id uint64, key string, l ...api.Part) api.Upload { return api.Upload{ID: id, Key: key, L: l} }

// bin, box and tub are buckets as they come about, with Off, On and Held, made up to the time 800; among their numbers are some with octets 10, and some that rise otherwise than their octets do.
func bin() api.Bucket {
	return api.Bucket{
		Name: "bin", State: api.Off, Last: 10,
		L:  []api.Entry{entry("a", api.Version{Data: "of a", At: 3}), entry("a ", api.Version{}), entry("a/b", api.Version{Data: "\x00\n\xff", At: 266})},
		Up: []api.Upload{up(3, "b", api.Part{N: 1, Data: "first"}, api.Part{N: 10, Data: ""}, api.Part{N: 266, Data: "\n"}, api.Part{N: 1000, Data: "end"}), up(10, "a")},
	}
}

func box() api.Bucket {
	return api.Bucket{
		Name: "box", State: api.On, Last: 70000,
		L: []api.Entry{
			entry("a", api.Version{ID: 2570, Data: "later", At: 10}, api.Version{Data: "zero", At: 10}, api.Version{ID: 10, Mark: true, At: 4}, api.Version{ID: 1, Data: "one"}),
			entry("b", api.Version{ID: 8, Mark: true, At: 7}),
			entry("c", api.Version{ID: 69999, Mark: true, At: 800}, api.Version{ID: 256, At: 5}),
			entry("~", api.Version{Mark: true, At: 1}),
		},
		Up: []api.Upload{up(2, "a", api.Part{N: 2, Data: "two"}, api.Part{N: 256, Data: "more"}), up(256, "a"), up(65536, "d", api.Part{N: 1, Data: "four"})},
	}
}

func tub() api.Bucket {
	b := box()
	b.Name, b.State = "tub", api.Held
	b.L[1].L = []api.Version{{Mark: true, At: 7}, {ID: 8, Data: "eight", At: 7}}
	return b
}

// some is a depot as it comes about, at the time 800: a bucket of each state, and one with nothing in it.
func some() api.Depot {
	return api.Depot{Now: 800, L: []api.Bucket{bin(), box(), tub(), {Name: "vat", State: api.Held, Last: 4}}}
}

// atLimits is a depot at its limits: of buckets, of keys, of numbers, of octets, of uploads and parts, of versions, and of time.
func atLimits() api.Depot {
	b := func(name string, state int, last uint64) api.Bucket {
		return api.Bucket{Name: name, State: state, Last: last}
	}
	d := api.Depot{Now: mostTime, L: []api.Bucket{b("l-keys", api.On, 5), b("l-names"+strings.Repeat("x", 13), api.Off, 0), b("l-numbers", api.On, mostID), b("l-octets", api.Off, 3), b("l-uploads", api.Held, 50), b("l-versions", api.On, 20)}}
	for i := range 60 {
		d.L[0].L = append(d.L[0].L, entry(fmt.Sprintf("k%d", 10+i), api.Version{ID: 5, Data: "x", At: i}))
	}
	d.L[1].L = []api.Entry{entry(strings.Repeat(" ", 60), api.Version{At: mostTime}), entry(strings.Repeat("~", 60), api.Version{})}
	d.L[2].L = []api.Entry{entry("k", api.Version{ID: mostID, Data: "x", At: mostTime}, api.Version{ID: mostID - 1, Mark: true, At: mostTime - 1})}
	d.L[2].Up = []api.Upload{up(mostID, "k", api.Part{N: 1}, api.Part{N: 1000})}
	for i := range 9 {
		d.L[3].L = append(d.L[3].L, entry(fmt.Sprint(i), api.Version{Data: octetsOf(2000)}))
	}
	d.L[3].Up = []api.Upload{up(3, "k", api.Part{N: 1, Data: octetsOf(2000)})}
	for i := range 10 {
		d.L[4].Up = append(d.L[4].Up, up(uint64(i+1), "a"))
	}
	for i := range 30 {
		d.L[4].Up[2].L = append(d.L[4].Up[2].L, api.Part{N: 1000 - 29 + i, Data: octetsOf(67)})
	}
	d.L[5].L = []api.Entry{entry("a")}
	for i := range 20 {
		d.L[5].L[0].L = append(d.L[5].L[0].L, api.Version{ID: uint64(20 - i), Data: "v", At: 1})
	}
	return d
}

// goodDepots may be; each edge is there.
func goodDepots() []api.Depot {
	all := []api.Depot{{}, {L: []api.Bucket{}}, {Now: 1}, {Now: 10}, {Now: 256}, {Now: mostTime}, some(), atLimits()}
	for _, l := range [][]string{{"000", "001"}, {"a-z", "a0z", "aaz"}, {"abc", "abcd"}, {"box", "box-1", "box1"}, {"ttt", "ttt-t"}} {
		d := api.Depot{Now: 3}
		for i, s := range l {
			b := bin()
			b.Name, b.L[2].L[0].At = s, i
			d.L = append(d.L, b)
		}
		all = append(all, d)
	}
	return all
}

// deep is the same depot in memory of its own.
func deep(d api.Depot) api.Depot {
	d.L = slices.Clone(d.L)
	for i, b := range d.L {
		d.L[i].L, d.L[i].Up = slices.Clone(b.L), slices.Clone(b.Up)
		for j, e := range b.L {
			d.L[i].L[j].L = slices.Clone(e.L)
		}
		for j, u := range b.Up {
			d.L[i].Up[j].L = slices.Clone(u.L)
		}
	}
	return d
}

// isZero: is a depot the zero value?
func isZero(d api.Depot) bool { return d.Now == 0 && len(d.L) == 0 }

// TestOfByHand: P11.1, a depot's items, octet by octet.
func TestOfByHand(t *testing.T) {
	if l, e := Of(api.Depot{}); e != api.OK || !slices.Equal(l, []api.Item{{Name: "t", Val: "\x01\x00\x08\x00\x00\x00\x00\x00\x00\x00\x00\x00"}}) {
		t.Errorf("Of of the zero depot: %q, %d", l, e)
	}
	d := api.Depot{Now: 300, L: []api.Bucket{
		{Name: "box", State: api.Held, Last: 513,
			L:  []api.Entry{entry("a/b", api.Version{ID: 2, Mark: true, At: 299}, api.Version{Data: "hi", At: 7}, api.Version{ID: 1})},
			Up: []api.Upload{up(2, "k"), up(512, "a", api.Part{N: 1, Data: "one"}, api.Part{N: 258})}},
		{Name: "box-1"},
	}}
	want := []api.Item{
		{Name: "bbox", Val: "\x02\x00\x08\x00\x02\x00\x00\x00\x00\x00\x00\x00\x08\x00\x01\x02\x00\x00\x00\x00\x00\x00"},
		{Name: "bbox-1", Val: "\x02\x00\x08\x00\x00\x00\x00\x00\x00\x00\x00\x00\x08\x00\x00\x00\x00\x00\x00\x00\x00\x00"},
		{Name: "pbox\n\x00\x02\x00\x00\x00\x00\x00\x00\x01\x00\x00\x00\x00\x00\x00\x00", Val: "\x01\x00\x03\x00one"},
		{Name: "pbox\n\x00\x02\x00\x00\x00\x00\x00\x00\x02\x01\x00\x00\x00\x00\x00\x00", Val: "\x01\x00\x00\x00"},
		{Name: "t", Val: "\x01\x00\x08\x00\x2c\x01\x00\x00\x00\x00\x00\x00"},
		{Name: "ubox\n\x00\x02\x00\x00\x00\x00\x00\x00", Val: "\x01\x00\x01\x00a"},
		{Name: "ubox\n\x02\x00\x00\x00\x00\x00\x00\x00", Val: "\x01\x00\x01\x00k"},
		{Name: "vbox\na/b\n\x00\x00\x00\x00\x00\x00\x00\x00", Val: list(eight(1), eight(7), eight(0), "hi")},
		{Name: "vbox\na/b\n\x01\x00\x00\x00\x00\x00\x00\x00", Val: list(eight(0), eight(0), eight(0), "")},
		{Name: "vbox\na/b\n\x02\x00\x00\x00\x00\x00\x00\x00", Val: list(eight(2), eight(299), eight(1), "")},
	}
	if l, e := Of(d); e != api.OK || !slices.Equal(l, want) {
		t.Errorf("Of: %q, %d, want %q", l, e, want)
	}
	if got, e := Build(want); e != api.OK || !depot.Same(got, d) {
		t.Errorf("Build: %s, %d", brief(got), e)
	}
}

// roundTrip: is a depot taken apart as the document's words say, and put together as it was? What is handed in stays.
func roundTrip(t *testing.T, d api.Depot) {
	t.Helper()
	was := deep(d)
	l, e := Of(d)
	if e != api.OK || !slices.Equal(l, wantItems(was)) {
		t.Fatalf("Of(%s): %s, %d, want %s", brief(d), brief(l), e, brief(wantItems(was)))
	}
	if !depot.Same(d, was) {
		t.Fatalf("Of(%s): what was handed in is %s now", brief(was), brief(d))
	}
	for i := range len(l) - 1 {
		if l[i].Name >= l[i+1].Name {
			t.Fatalf("Of(%s): %q is ahead of %q", brief(d), l[i].Name, l[i+1].Name)
		}
	}
	kept := slices.Clone(l)
	got, e := Build(l)
	if e != api.OK || !depot.Same(got, d) {
		t.Fatalf("Build(%s): %s, %d, want %s", brief(l), brief(got), e, brief(d))
	}
	if !slices.Equal(l, kept) {
		t.Fatalf("Build(%s): what was handed in is %s now", brief(kept), brief(l))
	}
}

// TestRoundTrip: P11.1 and P11.3, all depots, at all edges.
func TestRoundTrip(t *testing.T) {
	for _, d := range goodDepots() {
		roundTrip(t, d)
	}
}

// TestOfRefuses: P11.1, depots that may not be, each for one reason.
func TestOfRefuses(t *testing.T) {
	for i, spoil := range []func(d *api.Depot){
		func(d *api.Depot) { d.Now = -1 },
		func(d *api.Depot) { d.Now = math.MinInt },
		func(d *api.Depot) { d.Now = mostTime + 1 },
		func(d *api.Depot) { d.Now = math.MaxInt },
		func(d *api.Depot) { d.Now = 799 },
		func(d *api.Depot) { d.L[0], d.L[1] = d.L[1], d.L[0] },
		func(d *api.Depot) { d.L[1].Name = "bin" },
		func(d *api.Depot) { d.L[1].Name = "" },
		func(d *api.Depot) { d.L[1].Name = "b\nx" },
		func(d *api.Depot) { d.L[1].State = 3 },
		func(d *api.Depot) { d.L[1].State = api.Off },
		func(d *api.Depot) { d.L[1].Last = 2 },
		func(d *api.Depot) { d.L[3].Last = mostID + 1 },
		func(d *api.Depot) { d.L[0].L[0].Key = "a\n" },
		func(d *api.Depot) { d.L[0].L[0].L = nil },
		func(d *api.Depot) { d.L[0].L[0].L[0].Data = octetsOf(2001) },
		func(d *api.Depot) { d.L[0].L[0].L[0].Data = octetsOf(70000) },
		func(d *api.Depot) { d.L[0].L[0].L[0].At = -1 },
		func(d *api.Depot) { d.L[1].L[0].L[2].Data = "x" },
		func(d *api.Depot) { d.L[1].L[0].L[0].ID = 9 },
		func(d *api.Depot) { d.L[0].Up[0].ID = 0 },
		func(d *api.Depot) { d.L[0].Up[0].Key = "" },
		func(d *api.Depot) { d.L[0].Up[0].L[0].N = 0 },
		func(d *api.Depot) { d.L[0].Up[0].L[0].N = math.MinInt },
		func(d *api.Depot) { d.L[0].Up[0].L[3].N = 1001 },
		func(d *api.Depot) { d.L = make([]api.Bucket, 7) },
		func(d *api.Depot) { d.L = make([]api.Bucket, 100000) },
	} {
		d := some()
		spoil(&d)
		if l, e := Of(d); len(l) != 0 || e != api.ErrArg {
			t.Errorf("%d: Of(%s): %s, %d", i, brief(d), brief(l), e)
		}
	}
}

// refused: are these no depot's items?
func refused(t *testing.T, why string, l []api.Item) {
	t.Helper()
	if d, e := Build(l); e != api.ErrForm || !isZero(d) {
		t.Errorf("%s: Build(%s): %s, %d", why, brief(l), brief(d), e)
	}
}

// but is the items of some, but that one is there with another name and value, or, of the name "", is gone.
func but(t *testing.T, name string, x api.Item) []api.Item {
	t.Helper()
	l := wantItems(some())
	at := slices.IndexFunc(l, func(y api.Item) bool { return y.Name == name })
	if at < 0 {
		t.Fatalf("no item %q", name)
	}
	l[at] = x
	if x.Name == "" {
		l = slices.Delete(l, at, at+1)
	}
	return rising(l)
}

// and is the items of some, and more.
func and(more ...api.Item) []api.Item { return rising(append(wantItems(some()), more...)) }

// Names of items of some.
var (
	latest = "vbox\na\n" + eight(2570)
	second = "vbox\na\n" + eight(0)
	marked = "vbox\na\n" + eight(10)
	oldest = "vbox\na\n" + eight(1)
	parted = "ubin\n" + eight(3)
	bare   = "ubin\n" + eight(10)
	part   = "pbin\n" + eight(3) + eight(266)
)

// TestBuildRefusesValues: P11.1, values that are laid otherwise, each for one reason.
func TestBuildRefusesValues(t *testing.T) {
	for _, x := range wantItems(some()) {
		for _, val := range []string{"", "\x00", "\x00\x00", x.Val + "\x00", x.Val + "x", x.Val[:len(x.Val)-1], x.Val[1:], list(), list("", "", "", "", ""), list("x", "y"), list("x", "y", "z"), "\xff\xff", "\xff\xff" + x.Val, "\x01\x00\xff\xff"} {
			refused(t, "value", but(t, x.Name, api.Item{Name: x.Name, Val: val}))
		}
	}
	seven, nine := eight(5)[:7], eight(5)+"\x00"
	for i, x := range []api.Item{
		item("t", seven), item("t", nine), item("t", ""), item("t", eight(799)), item("t", eight(mostTime+1)), item("t", eight(1<<63)), item("t", eight(1<<63+800)), item("t", eight(math.MaxUint64)), item("t", eight(800), eight(800)), item("t", "800"),
		item("bvat", eight(3), eight(4)), item("bvat", eight(256), eight(4)), item("bvat", eight(1<<63+1), eight(4)), item("bvat", eight(math.MaxUint64), eight(4)), item("bvat", eight(0), eight(mostID+1)), item("bvat", eight(0), eight(math.MaxUint64)), item("bvat", seven, eight(4)), item("bvat", eight(2), nine), item("bvat", eight(2)), item("bvat", eight(2), eight(4), eight(0)), item("bvat", eight(2)+eight(4)),
		item("bbox", eight(0), eight(70000)), item("bbox", eight(1), eight(69998)), item("bbox", eight(1), eight(65535)), item("bbin", eight(0), eight(9)), item("bbox", eight(70000), eight(1)),
		item(latest, version(4, 10, 0, "later")...), item(latest, version(2, 10, 0, "later")...), item(latest, version(0, 10, 0, "later")...), item(latest, version(1<<63+3, 10, 0, "later")...), item(latest, version(math.MaxUint64, 10, 0, "later")...), item(latest, version(3, 9, 0, "later")...), item(latest, version(3, 801, 0, "later")...), item(latest, version(3, 1<<63+10, 0, "later")...), item(latest, version(3, 10, 2, "later")...), item(latest, version(3, 10, 1, "later")...), item(latest, version(3, 10, 256, "later")...), item(latest, version(3, 10, 0, octetsOf(2001))...), item(latest, version(3, 10, 0, octetsOf(4000))...),
		item(latest, eight(3), eight(10), eight(0)), item(latest, eight(3), eight(10), eight(0), "later", ""), item(latest, eight(3), eight(10), eight(0)+"later"), item(latest, eight(10), eight(3), eight(0), "later"), item(latest, seven, eight(10), eight(0), ""), item(latest, eight(3), nine, eight(0), ""), item(latest, eight(3), eight(10), "\x00", "later"), item(latest, eight(3), eight(10), "", "later"), item(latest, eight(3), eight(10), eight(0)+"\x00", "later"),
		item(second, version(2, 11, 0, "zero")...), item(second, version(1, 10, 0, "zero")...), item(marked, version(1, 4, 1, "x")...), item(marked, version(1, 4, math.MaxUint64, "")...), item(oldest, version(1, 0, 0, "one")...), item(oldest, version(0, 5, 0, "one")...), item(oldest, version(3, 0, 0, "one")...),
		item(parted, ""), item(parted, octetsOf(61)), item(parted, "a\n"), item(parted, "\x7f"), item(parted, "a", "b"), item(bare, ""), item(bare, "a", ""),
		item(part, octetsOf(2001)), item(part, "a", "b"), item(part),
	} {
		refused(t, fmt.Sprint("value ", i), but(t, x.Name, x))
	}
}

// TestBuildRefusesNames: P11.1, names that are laid otherwise, and things that there may not be.
func TestBuildRefusesNames(t *testing.T) {
	v, p := version(0, 5, 0, "x"), []string{"x"}
	for i, x := range []api.Item{
		{}, item("x"), item("x", eight(1)), item(""), item("", eight(1)), item("T", eight(1)), item("B", eight(0), eight(0)), item("tt", eight(800)), item("t\n", eight(800)), item("\nt", eight(800)), item("bo"), item("\x00"), item("\xff"), item("é"),
		item("b", eight(0), eight(0)), item("bab", eight(0), eight(0)), item("bABC", eight(0), eight(0)), item("babc\n", eight(0), eight(0)), item("b-abc", eight(0), eight(0)), item("b"+strings.Repeat("x", 21), eight(0), eight(0)), item("babc", eight(3), eight(0)), item("b\n", eight(0), eight(0)),
		item("vcat\na\n"+eight(0), v...), item("v\na\n"+eight(0), v...), item("vbox", v...), item("vbox\n", v...), item("vbox\nz", v...), item("vbox\nz\n", v...), item("vbox\n"+eight(1), v...), item("vbox\n\n"+eight(1), v...), item("vbox/z/"+eight(1), v...), item("vbox\nz/"+eight(1), v...), item("vbox\nz\n"+eight(1)[:7], v...), item("vbox\nz\n"+eight(1)+"\x00", v...), item("vbox\nz\n"+eight(1)+"\n", v...), item("vbox\nz\n\n"+eight(1), v...), item("vbox\n\x7f\n"+eight(1), v...), item("vbox\n\x1f\n"+eight(1), v...), item("vbox\n"+octetsOf(61)+"\n"+eight(1), v...), item("vbox\nz\n"+eight(70001), v...), item("vbox\nz\n"+eight(mostID+1), v...), item("vbox\nz\n"+eight(math.MaxUint64), v...), item("vbox\na\n"+eight(3), v...), item("vbin\na\n"+eight(1), v...), item("vbin\nz\n"+eight(1), v...), item("vBOX\nz\n"+eight(1), v...), item("v", v...),
		item("ucat\n"+eight(1), "k"), item("ubox\n"+eight(0), "k"), item("ubox\n"+eight(70001), "k"), item("ubox\n"+eight(mostID+1), "k"), item("ubox\n"+eight(1<<63+1), "k"), item("ubox", "k"), item("ubox\n", "k"), item("ubox\n"+eight(1)[:7], "k"), item("ubox\n"+eight(1)+"\x00", "k"), item("ubox/"+eight(1), "k"), item("ubox\n\n"+eight(1), "k"), item("u", "k"), item("u\n"+eight(1), "k"), item("ubox\n"+eight(1), ""), item("ubox\n"+eight(1), octetsOf(61)), item("ubox\n"+eight(1), "\n"),
		item("pcat\n"+eight(3)+eight(1), p...), item("pbin\n"+eight(4)+eight(1), p...), item("pbin\n"+eight(0)+eight(1), p...), item("pbin\n"+eight(3)+eight(0), p...), item("pbin\n"+eight(3)+eight(1001), p...), item("pbin\n"+eight(3)+eight(1<<63+5), p...), item("pbin\n"+eight(3)+eight(math.MaxUint64), p...), item("pbin\n"+eight(3), p...), item("pbin\n"+eight(3)+eight(5)[:7], p...), item("pbin\n"+eight(3)+eight(5)+"\x00", p...), item("pbin\n"+eight(3)+"\n"+eight(5), p...), item("pbin/"+eight(3)+eight(5), p...), item("pbin", p...), item("p", p...), item("p\n"+eight(3)+eight(5), p...), item("pvat\n"+eight(3)+eight(5), p...),
	} {
		refused(t, fmt.Sprint("name ", i), and(x))
	}
	for _, name := range []string{"t", "bbin", "bbox", "btub", second, marked, oldest, parted} {
		refused(t, "gone: "+name, but(t, name, api.Item{}))
	}
	for _, x := range wantItems(some()) {
		refused(t, "name in other letters", but(t, x.Name, api.Item{Name: strings.ToUpper(x.Name), Val: x.Val}))
		refused(t, "name with more", but(t, x.Name, api.Item{Name: x.Name + "\n", Val: x.Val}))
		refused(t, "name with another end", but(t, x.Name, api.Item{Name: x.Name[:1] + "\n" + x.Name[1:], Val: x.Val}))
	}
}

// TestBuildTakesOthers: P11.1, items of some with one other one are those of another depot, if that one may be.
func TestBuildTakesOthers(t *testing.T) {
	for i, c := range []struct {
		l      []api.Item
		change func(d *api.Depot)
	}{
		{but(t, "t", item("t", eight(801))), func(d *api.Depot) { d.Now = 801 }},
		{but(t, "t", item("t", eight(mostTime))), func(d *api.Depot) { d.Now = mostTime }},
		{but(t, "bvat", api.Item{}), func(d *api.Depot) { d.L = d.L[:3] }},
		{but(t, "bvat", item("bvat", eight(0), eight(mostID))), func(d *api.Depot) { d.L[3].State, d.L[3].Last = api.Off, mostID }},
		{but(t, "bvat", item("b0-0", eight(1), eight(0))), func(d *api.Depot) {
			d.L = append([]api.Bucket{{Name: "0-0", State: api.On}}, d.L[:3]...)
		}},
		{but(t, latest, api.Item{}), func(d *api.Depot) { d.L[1].L[0].L = d.L[1].L[0].L[1:] }},
		{but(t, latest, item(latest, version(3, 800, 1, "")...)), func(d *api.Depot) {
			d.L[1].L[0].L[0] = api.Version{ID: 2570, Mark: true, At: 800}
		}},
		{but(t, latest, item("vbox\na\n"+eight(70000), version(3, 10, 0, octetsOf(2000))...)), func(d *api.Depot) {
			d.L[1].L[0].L[0] = api.Version{ID: 70000, Data: octetsOf(2000), At: 10}
		}},
		{but(t, latest, item("vbox\nA\n"+eight(2570), version(0, 10, 0, "later")...)), func(d *api.Depot) {
			l := d.L[1].L
			d.L[1].L = append([]api.Entry{entry("A", l[0].L[0]), entry("a", l[0].L[1:]...)}, l[1:]...)
		}},
		{but(t, part, api.Item{}), func(d *api.Depot) { d.L[0].Up[0].L = slices.Delete(d.L[0].Up[0].L, 2, 3) }},
		{but(t, part, item(part, octetsOf(2000))), func(d *api.Depot) { d.L[0].Up[0].L[2].Data = octetsOf(2000) }},
		{but(t, part, item("pbin\n"+eight(10)+eight(1000), "")), func(d *api.Depot) {
			d.L[0].Up[0].L = slices.Delete(d.L[0].Up[0].L, 2, 3)
			d.L[0].Up[1].L = []api.Part{{N: 1000}}
		}},
		{but(t, bare, api.Item{}), func(d *api.Depot) { d.L[0].Up = d.L[0].Up[:1] }},
		{but(t, bare, item(bare, " ")), func(d *api.Depot) { d.L[0].Up[1].Key = " " }},
		{but(t, bare, item("ubin\n"+eight(1), "a")), func(d *api.Depot) { d.L[0].Up = []api.Upload{up(1, "a"), d.L[0].Up[0]} }},
	} {
		want := some()
		c.change(&want)
		if got, e := Build(c.l); e != api.OK || !depot.Same(got, want) {
			t.Errorf("%d: Build(%s): %s, %d, want %s", i, brief(c.l), brief(got), e, brief(want))
		}
		roundTrip(t, want)
	}
}

// TestBuildRefusesOrder: P11.1, none, items twice, and those that don't rise, octet by octet.
func TestBuildRefusesOrder(t *testing.T) {
	refused(t, "none", nil)
	refused(t, "none", []api.Item{})
	for _, d := range goodDepots() {
		l := wantItems(d)
		for i, x := range l {
			refused(t, "twice, side by side", slices.Insert(slices.Clone(l), i, x))
			refused(t, "twice, the second one at the end", append(slices.Clone(l), x))
			refused(t, "twice, the first one ahead of all", append([]api.Item{x}, l...))
			refused(t, "twice, with another value", slices.Insert(slices.Clone(l), i, api.Item{Name: x.Name}))
			refused(t, "twice, with another value", slices.Insert(slices.Clone(l), i+1, api.Item{Name: x.Name, Val: list(eight(1))}))
			if i > 0 {
				swapped := slices.Clone(l)
				swapped[i-1], swapped[i] = x, l[i-1]
				refused(t, "swapped", swapped)
				refused(t, "turned round", append(slices.Clone(l[i:]), l[:i]...))
			}
		}
	}
	byNumber := []api.Item{item("bbox", eight(0), eight(256)), item("t", eight(0)), item("ubox\n"+eight(1), "a"), item("ubox\n"+eight(256), "a")}
	refused(t, "rising by numbers", byNumber)
	if d, e := Build(rising(byNumber)); e != api.OK || len(d.L[0].Up) != 2 || d.L[0].Up[0].ID != 1 {
		t.Errorf("rising by octets: %s, %d", brief(d), e)
	}
}

// TestBuildRefusesTooMuch: P11.1, one above each limit.
func TestBuildRefusesTooMuch(t *testing.T) {
	one := version(0, 1, 0, "x")
	for i, l := range [][]api.Item{
		{item("bzzz", eight(0), eight(0))},
		{item("vl-keys\nz\n"+eight(1), one...)},
		{item("vl-octets\nz\n"+eight(0), one...)},
		{item("pl-octets\n"+eight(3)+eight(2), "x")},
		{item("ul-uploads\n"+eight(11), "a")},
		{item("pl-uploads\n"+eight(3)+eight(1), "x")},
		{item("vl-versions\na\n"+eight(0), version(20, 1, 0, "x")...)},
	} {
		refused(t, fmt.Sprint("too much ", i), rising(append(wantItems(atLimits()), l...)))
	}
	for _, x := range []api.Item{item("vl-keys\nk10\n"+eight(0), version(1, 1, 0, "x")...), item("vl-octets\nz\n"+eight(0), version(0, 1, 0, "")...), item("pl-uploads\n"+eight(4)+eight(1), "x")} {
		l := rising(append(wantItems(atLimits()), x))
		if d, e := Build(l); e != api.OK || !slices.Equal(wantItems(d), l) {
			t.Errorf("at a limit, with %q: %s, %d", x, brief(d), e)
		}
	}
}

// sound: are these refused, or are they the items of what is answered?
func sound(t *testing.T, l []api.Item) bool {
	t.Helper()
	d, e := Build(l)
	if e == api.ErrForm && isZero(d) {
		return false
	}
	if e != api.OK || depot.Check(d) != api.OK || !slices.Equal(wantItems(d), l) {
		t.Fatalf("Build(%s): %s, %d", brief(l), brief(d), e)
	}
	return true
}

// TestBuildAtSpoiltOctets: P11.1, each octet of some items another one, gone, or more.
func TestBuildAtSpoiltOctets(t *testing.T) {
	l := wantItems(some())
	taken := 0
	spoil := func(i int, x api.Item) {
		if sound(t, slices.Concat(l[:i], []api.Item{x}, l[i+1:])) {
			taken++
		}
	}
	for i, x := range l {
		for at := range len(x.Name) {
			for _, in := range []string{"", "\x00", "\x01", "\n", "/", "a", "z", "\xff", x.Name[at:at+1] + "\x00", x.Name[:at]} {
				spoil(i, api.Item{Name: x.Name[:at] + in + x.Name[at+1:], Val: x.Val})
			}
		}
		for at := range len(x.Val) {
			for _, in := range []string{"", "\x00", "\x01", "\x02", "\n", "a", "\xff", x.Val[at:at+1] + "\x00", x.Val[:at]} {
				spoil(i, api.Item{Name: x.Name, Val: x.Val[:at] + in + x.Val[at+1:]})
			}
		}
	}
	if taken == 0 {
		t.Error("nothing was taken")
	}
}

// TestBuildOfMany: R1, very many items that are no depot's, of each kind, come to an end.
func TestBuildOfMany(t *testing.T) {
	for _, name := range []func(i int) api.Item{
		func(i int) api.Item { return item("t", eight(uint64(i))) },
		func(i int) api.Item { return item(fmt.Sprintf("bx%dx", i), eight(0), eight(0)) },
		func(i int) api.Item { return item("b", eight(0), eight(0)) },
		func(i int) api.Item { return item("vbox\na\n"+eight(uint64(i)), version(uint64(i), 0, 0, "")...) },
		func(i int) api.Item { return item(fmt.Sprintf("vbox\n%d\n", i)+eight(0), version(0, 0, 0, "")...) },
		func(i int) api.Item { return item("ubox\n"+eight(uint64(i)), "a") },
		func(i int) api.Item { return item("pbox\n"+eight(1)+eight(uint64(i)), "a") },
		func(i int) api.Item { return item("pbox\n"+eight(uint64(i))+eight(1), "a") },
		func(i int) api.Item { return api.Item{} },
	} {
		l := []api.Item{item("bbox", eight(1), eight(mostID)), item("t", eight(0)), item("ubox\n"+eight(1), "a")}
		for i := range 100000 {
			l = append(l, name(i))
		}
		refused(t, "many", rising(l))
	}
}

// at is the place of the last item of a name; below 0, if there is none.
func at(l []api.Item, name string) int {
	for i := len(l) - 1; i >= 0; i-- {
		if l[i].Name == name {
			return i
		}
	}
	return -1
}

// wantWith is what P11.2 says of With.
func wantWith(l []api.Item, c []api.Change) []api.Item {
	var out []api.Item
	for i, x := range l {
		named := slices.ContainsFunc(c, func(y api.Change) bool { return y.Name == x.Name })
		if !named && at(l, x.Name) == i {
			out = append(out, x)
		}
	}
	for i, x := range c {
		last := !slices.ContainsFunc(c[i+1:], func(y api.Change) bool { return y.Name == x.Name })
		if last && !x.Gone {
			out = append(out, api.Item{Name: x.Name, Val: x.Val})
		}
	}
	return rising(out)
}

// wantDiff is what P11.2 says of Diff.
func wantDiff(a, b []api.Item) []api.Change {
	var out []api.Change
	for i, x := range b {
		if in := at(a, x.Name); at(b, x.Name) == i && (in < 0 || a[in].Val != x.Val) {
			out = append(out, api.Change{Name: x.Name, Val: x.Val})
		}
	}
	for i, x := range a {
		if at(a, x.Name) == i && at(b, x.Name) < 0 {
			out = append(out, api.Change{Name: x.Name, Gone: true})
		}
	}
	slices.SortFunc(out, func(x, y api.Change) int { return strings.Compare(x.Name, y.Name) })
	return out
}

// chances is numbers below n, that hang on a seed alone.
func chances(seed uint32) func(n int) int {
	return func(n int) int {
		seed = seed*1664525 + 1013904223
		return int(seed >> 8 % uint32(n))
	}
}

// chanceItems is items by chance, of few names, some of them more than once.
func chanceItems(chance func(n int) int) []api.Item {
	names := []string{"", "a", "a\x00", "a\n", "ab", "b", "\x00", "\xff", "é", "t"}
	var l []api.Item
	for range chance(9) {
		l = append(l, api.Item{Name: names[chance(len(names))], Val: []string{"", "1", "2", "\x00"}[chance(4)]})
	}
	return l
}

// TestWithAndDiff: P11.2 and P11.3, lists by chance, rising or not, with several items of one name.
func TestWithAndDiff(t *testing.T) {
	chance := chances(11)
	for range 20000 {
		a, b := chanceItems(chance), chanceItems(chance)
		var c []api.Change
		for _, x := range chanceItems(chance) {
			c = append(c, api.Change{Name: x.Name, Val: x.Val, Gone: chance(2) == 0})
		}
		wasA, wasB, wasC := slices.Clone(a), slices.Clone(b), slices.Clone(c)
		if got := With(a, c); !slices.Equal(got, wantWith(wasA, wasC)) {
			t.Fatalf("With(%q, %s): %q, want %q", wasA, brief(wasC), got, wantWith(wasA, wasC))
		}
		d := Diff(a, b)
		if !slices.Equal(d, wantDiff(wasA, wasB)) {
			t.Fatalf("Diff(%q, %q): %s, want %s", wasA, wasB, brief(d), brief(wantDiff(wasA, wasB)))
		}
		if !slices.Equal(a, wasA) || !slices.Equal(b, wasB) || !slices.Equal(c, wasC) {
			t.Fatalf("what was handed in, %q, %q, %s, is %q, %q, %s now", wasA, wasB, brief(wasC), a, b, brief(c))
		}
		// With no changes items rise, none twice.
		a, b = With(a, nil), With(b, nil)
		if got := With(a, Diff(a, b)); !slices.Equal(got, b) {
			t.Fatalf("With(%q, Diff of %q): %q", a, b, got)
		}
		if got := Diff(a, a); len(got) != 0 {
			t.Fatalf("Diff of %q and itself: %s", a, brief(got))
		}
	}
}

// TestWithByHand: P11.2, each word of it.
func TestWithByHand(t *testing.T) {
	a1, a2, b1, c0 := api.Item{Name: "a", Val: "1"}, api.Item{Name: "a", Val: "2"}, api.Item{Name: "b", Val: "1"}, api.Item{Name: "c"}
	is := func(x api.Item) api.Change { return api.Change{Name: x.Name, Val: x.Val} }
	gone := func(name, val string) api.Change { return api.Change{Name: name, Val: val, Gone: true} }
	for i, c := range []struct {
		l    []api.Item
		c    []api.Change
		want []api.Item
	}{
		{nil, nil, nil},
		{[]api.Item{}, []api.Change{}, nil},
		{[]api.Item{a1, b1}, nil, []api.Item{a1, b1}},
		{[]api.Item{c0, b1, a1}, nil, []api.Item{a1, b1, c0}},
		{[]api.Item{a1, a2, b1}, nil, []api.Item{a2, b1}},
		{[]api.Item{a2, b1, a1}, nil, []api.Item{a1, b1}},
		{nil, []api.Change{is(b1), is(a1)}, []api.Item{a1, b1}},
		{[]api.Item{a1, b1}, []api.Change{is(a2), is(c0)}, []api.Item{a2, b1, c0}},
		{[]api.Item{a1, b1}, []api.Change{gone("a", "")}, []api.Item{b1}},
		{[]api.Item{a1, b1}, []api.Change{gone("a", "2")}, []api.Item{b1}},
		{[]api.Item{a1, a2}, []api.Change{gone("a", "")}, nil},
		{[]api.Item{a1}, []api.Change{gone("z", "")}, []api.Item{a1}},
		{[]api.Item{a1}, []api.Change{gone("a", ""), is(a2)}, []api.Item{a2}},
		{[]api.Item{a1}, []api.Change{is(a2), gone("a", "")}, nil},
		{[]api.Item{b1}, []api.Change{is(a1), gone("b", ""), is(a2)}, []api.Item{a2}},
		{[]api.Item{a2}, []api.Change{is(a2), is(a1)}, []api.Item{a1}},
		{[]api.Item{{}}, []api.Change{{Val: "x"}}, []api.Item{{Val: "x"}}},
		{[]api.Item{{}}, []api.Change{{Gone: true}}, nil},
		{[]api.Item{{Name: "b"}, {Name: "a\xff"}, {Name: "a"}, {Name: "B"}, {Name: "é"}}, nil, []api.Item{{Name: "B"}, {Name: "a"}, {Name: "a\xff"}, {Name: "b"}, {Name: "é"}}},
	} {
		if got := With(c.l, c.c); !slices.Equal(got, c.want) {
			t.Errorf("%d: With(%q, %s): %q, want %q", i, c.l, brief(c.c), got, c.want)
		}
	}
}

// TestDiffByHand: P11.2, each word of it.
func TestDiffByHand(t *testing.T) {
	a1, a2, b1, c0 := api.Item{Name: "a", Val: "1"}, api.Item{Name: "a", Val: "2"}, api.Item{Name: "b", Val: "1"}, api.Item{Name: "c"}
	toA2, toA1, toB1, toC0 := api.Change{Name: "a", Val: "2"}, api.Change{Name: "a", Val: "1"}, api.Change{Name: "b", Val: "1"}, api.Change{Name: "c"}
	noA, noB, noC := api.Change{Name: "a", Gone: true}, api.Change{Name: "b", Gone: true}, api.Change{Name: "c", Gone: true}
	for i, c := range []struct {
		a, b []api.Item
		want []api.Change
	}{
		{nil, nil, nil},
		{[]api.Item{}, nil, nil},
		{[]api.Item{a1, b1}, []api.Item{a1, b1}, nil},
		{[]api.Item{b1, a1}, []api.Item{a1, b1}, nil},
		{nil, []api.Item{b1, c0, a1}, []api.Change{toA1, toB1, toC0}},
		{[]api.Item{b1, c0, a1}, nil, []api.Change{noA, noB, noC}},
		{[]api.Item{a1, b1}, []api.Item{a2, c0}, []api.Change{toA2, noB, toC0}},
		{[]api.Item{a1, a2}, []api.Item{a1}, []api.Change{toA1}},
		{[]api.Item{a1, a2}, []api.Item{a2}, nil},
		{[]api.Item{a1}, []api.Item{a2, a1}, nil},
		{[]api.Item{a1}, []api.Item{a1, a2}, []api.Change{toA2}},
		{[]api.Item{a1, a2}, nil, []api.Change{noA}},
		{nil, []api.Item{a1, b1, a2}, []api.Change{toA2, toB1}},
		{[]api.Item{c0}, []api.Item{{Name: "c", Val: "\x00"}}, []api.Change{{Name: "c", Val: "\x00"}}},
		{nil, []api.Item{{}}, []api.Change{{}}},
		{[]api.Item{{}}, nil, []api.Change{{Gone: true}}},
	} {
		if got := Diff(c.a, c.b); !slices.Equal(got, c.want) {
			t.Errorf("%d: Diff(%q, %q): %s, want %s", i, c.a, c.b, brief(got), brief(c.want))
		}
	}
}

// TestNewMemory: what is answered shares nothing with what was handed in, even where there is room behind it; no two lists of an answer share any.
func TestNewMemory(t *testing.T) {
	l := slices.Grow(wantItems(some()), 9)
	was := slices.Clone(l[:cap(l)])
	for _, got := range [][]api.Item{With(l, nil), With(l[:2], nil), With(l, []api.Change{{Name: "x"}})} {
		for i := range got[:cap(got)] {
			got[:cap(got)][i] = api.Item{Name: "scribble"}
		}
	}
	d, _ := Build(l)
	again := deep(d)
	for i, b := range d.L {
		for j, e := range b.L {
			_ = append(e.L, api.Version{Data: "scribble"})
			for k := range e.L {
				other := deep(again)
				other.L[i].L[j].L[k] = api.Version{Data: "scribble"}
				kept := e.L[k]
				e.L[k] = api.Version{Data: "scribble"}
				if !depot.Same(d, other) {
					t.Fatalf("versions of %s, %s are others', too", b.Name, e.Key)
				}
				e.L[k] = kept
			}
		}
		_, _ = append(b.L, entry("scribble")), append(b.Up, up(9, "scribble"))
	}
	if !depot.Same(d, again) {
		t.Fatalf("there is no room of its own behind a list of %s", brief(again))
	}
	for _, b := range d.L {
		clear(b.L)
		clear(b.Up)
	}
	clear(d.L)
	if !slices.Equal(l[:cap(l)], was) {
		t.Fatalf("%s is %s now", brief(was), brief(l))
	}
	from := some()
	items, _ := Of(from)
	clear(items)
	if !depot.Same(from, some()) {
		t.Fatalf("%s is %s now", brief(some()), brief(from))
	}
}

// changesOf is the names of the changes that what is asked makes of a depot's items, those that are gone with a - ahead.
func changesOf(t *testing.T, d api.Depot, a api.Ask) []string {
	t.Helper()
	next, told := depot.Do(d, a)
	if told.E != api.OK {
		t.Fatalf("Do(%s): %d", brief(a), told.E)
	}
	was, _ := Of(d)
	is, _ := Of(next)
	var names []string
	for _, x := range Diff(was, is) {
		if x.Gone {
			x.Name = "-" + x.Name
		}
		names = append(names, x.Name)
	}
	return names
}

// TestFewChanges: P11.3, what each kind of what is asked changes: what it is done to, and little else.
func TestFewChanges(t *testing.T) {
	v := func(key string, id uint64) string { return "vbox\n" + key + "\n" + eight(id) }
	for i, c := range []struct {
		a    api.Ask
		want []string
	}{
		{api.Ask{Kind: api.Make, Bucket: "aaa"}, []string{"baaa"}},
		{api.Ask{Kind: api.Remove, Bucket: "vat"}, []string{"-bvat"}},
		{api.Ask{Kind: api.Turn, Bucket: "bin", N: api.On}, []string{"bbin"}},
		{api.Ask{Kind: api.Put, Bucket: "box", Key: "a", Data: "x"}, []string{"bbox", v("a", 70001)}},
		{api.Ask{Kind: api.Put, Bucket: "bin", Key: "a", Data: "x"}, []string{"vbin\na\n" + eight(0)}},
		{api.Ask{Kind: api.Put, Bucket: "tub", Key: "a", Data: "x"}, []string{"vtub\na\n" + eight(0), "vtub\na\n" + eight(2570)}},
		{api.Ask{Kind: api.Put, Bucket: "tub", Key: "new"}, []string{"vtub\nnew\n" + eight(0)}},
		{api.Ask{Kind: api.Delete, Bucket: "box", Key: "a"}, []string{"bbox", v("a", 70001)}},
		{api.Ask{Kind: api.Delete, Bucket: "bin", Key: "a"}, []string{"-vbin\na\n" + eight(0)}},
		{api.Ask{Kind: api.Drop, Bucket: "box", Key: "a", ID: 2570}, []string{"-" + v("a", 2570)}},
		{api.Ask{Kind: api.Drop, Bucket: "box", Key: "a", ID: 10}, []string{v("a", 0), "-" + v("a", 10), v("a", 2570)}},
		{api.Ask{Kind: api.Begin, Bucket: "vat", Key: "a"}, []string{"bvat", "uvat\n" + eight(5)}},
		{api.Ask{Kind: api.Lay, Bucket: "bin", ID: 3, N: 266, Data: "x"}, []string{part}},
		{api.Ask{Kind: api.Lay, Bucket: "bin", ID: 3, N: 5}, []string{"pbin\n" + eight(3) + eight(5)}},
		{api.Ask{Kind: api.Abort, Bucket: "bin", ID: 10}, []string{"-" + bare}},
		{api.Ask{Kind: api.Abort, Bucket: "box", ID: 2}, []string{"-pbox\n" + eight(2) + eight(256), "-pbox\n" + eight(2) + eight(2), "-ubox\n" + eight(2)}},
		{api.Ask{Kind: api.Copy, Bucket: "bin", Key: "a", To: "box", As: "b"}, []string{"bbox", v("b", 70001)}},
		{api.Ask{Kind: api.Tick, N: 5}, []string{"t"}},
		{api.Ask{Kind: api.Tick}, nil},
	} {
		if got := changesOf(t, some(), c.a); !slices.Equal(got, c.want) {
			t.Errorf("%d: %s changes %q, want %q", i, brief(c.a), got, c.want)
		}
	}
}

// chanceAsk is what is asked by chance, mostly something that goes.
func chanceAsk(d api.Depot, chance func(n int) int) api.Ask {
	name := []string{"box", "box-1", "bin", "ttt"}[chance(4)]
	key := []string{"a", "a ", "a/b", "b"}[chance(4)]
	a := api.Ask{Kind: 1 + chance(12), Bucket: name, Key: key, To: name, As: "b", N: 1 + chance(300), Data: octetsOf(chance(30))}
	b, _ := depot.Find(d, name)
	if a.Kind == api.Turn {
		a.N = chance(3)
	}
	if a.Kind == api.Drop && chance(2) == 0 {
		a.ID = b.Last - min(b.Last, uint64(chance(10)))
	}
	if len(b.Up) > 0 && (a.Kind == api.Lay || a.Kind == api.Abort || a.Kind == api.Whole) {
		u := b.Up[chance(len(b.Up))]
		a.ID = u.ID
		for _, p := range u.L[len(u.L)-min(len(u.L), 1):] {
			_, told := depot.Do(d, api.Ask{Kind: api.Lay, Bucket: name, ID: u.ID, N: p.N, Data: p.Data})
			var tag uint32
			_, _ = fmt.Sscanf(told.Tag, "%08x", &tag)
			a.Pieces = []api.Piece{{N: p.N, Tag: tag}}
		}
	}
	return a
}

// TestManySteps: P11.1 to P11.3, along many steps, what is taken apart is put together as it was, and the changes of a step make its items of those ahead of it.
func TestManySteps(t *testing.T) {
	for start := range 4 {
		chance := chances(uint32(start))
		d := api.Depot{}
		went := map[int]int{}
		for range 1500 {
			a := chanceAsk(d, chance)
			next, told := depot.Do(d, a)
			if told.E == api.OK {
				went[a.Kind]++
			}
			roundTrip(t, next)
			was, _ := Of(d)
			is, _ := Of(next)
			c := Diff(was, is)
			if got := With(was, c); !slices.Equal(got, is) || !slices.Equal(c, wantDiff(was, is)) {
				t.Fatalf("Do(%s): %s makes %s of %s, want %s", brief(a), brief(c), brief(got), brief(was), brief(is))
			}
			// At most 20 versions of a key, an upload, its 30 parts, and the bucket, change at once.
			if len(c) > 52 {
				t.Fatalf("Do(%s): %d changes", brief(a), len(c))
			}
			d = next
		}
		if len(went) != 12 {
			t.Errorf("not each kind went: %v", went)
		}
	}
}

// TestExamples: the chapter's examples.
func TestExamples(t *testing.T) {
	l, e := Of(api.Depot{})
	if len(l) != 1 || e != api.OK {
		t.Errorf("Of of the zero depot: %q, %d", l, e)
	}
	if d, e := Build(nil); e != api.ErrForm || !isZero(d) {
		t.Errorf("Build of no items: %s, %d", brief(d), e)
	}
	if c := Diff(l, l); len(c) != 0 {
		t.Errorf("Diff of the same: %s", brief(c))
	}
}
