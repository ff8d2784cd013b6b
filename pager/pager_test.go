package pager

import (
	"math"
	"slices"
	"sort"
	"strings"
	"testing"

	"cellarer/api"
)

// ver is a version with so many octets.
func ver(id uint64, size int) api.Version {
	return api.Version{ID: id, Data: strings.Repeat("x", size)}
}

// mark is a Mark.
func mark(id uint64) api.Version { return api.Version{ID: id, Mark: true} }

// ent is an entry.
func ent(key string, l ...api.Version) api.Entry {
	return api.Entry{Key: key, L: l}
}

// live is an entry whose latest version is no Mark.
func live(key string) api.Entry { return ent(key, ver(2, 3), mark(1)) }

// gone is an entry whose latest version is a Mark.
func gone(key string) api.Entry { return ent(key, mark(3), ver(2, 0), ver(0, 1)) }

// longKey is a key of 60 octets.
func longKey() string { return strings.Repeat("k", 60) }

// fullIndex is an index of so many keys, each with so many versions.
func fullIndex(keys, versions int) []api.Entry {
	var l []api.Entry
	for i := range keys {
		e := ent(string([]byte{byte('0' + i/60), byte('0' + i%60)}))
		for k := range versions {
			e.L = append(e.L, ver(uint64(versions-k), k))
		}
		l = append(l, e)
	}
	return l
}

// pool is keys in order, some of which have octets just below and above the delimiter /.
func pool() []string {
	return []string{" ", "a", "a.b", "a/", "a/b", "a/b/c", "a/bc", "a0", "b//x", "b/y/z"}
}

// smallIndices is all indices of the pool's keys; by turns the latest versions are Marks.
func smallIndices() [][]api.Entry {
	var all [][]api.Entry
	for set := range 1 << len(pool()) {
		var l []api.Entry
		for i, key := range pool() {
			if set>>i&1 == 0 {
				continue
			}
			if (set/3+i)%4 == 0 {
				l = append(l, gone(key))
			} else {
				l = append(l, live(key))
			}
		}
		all = append(all, l)
	}
	return all
}

// badIndices may not be, each for one reason.
func badIndices() [][]api.Entry {
	return [][]api.Entry{
		{ent("a")}, {ent("")}, {live("a"), ent("b")}, {live("b"), live("a")}, {live("a"), live("a")}, {live("")}, {live("\n")}, {live("\x7f")}, {live(longKey() + "k")}, {ent("a", ver(1, 1), ver(2, 1))}, {ent("a", ver(1, 2001))}, {ent("a", ver(1<<48, 1))}, {live("a"), ent("b", mark(0), ver(0, 1))},
		{ent("a", api.Version{ID: 1, Mark: true, Data: "x"})}, {ent("a", api.Version{At: -1})}, fullIndex(61, 1), fullIndex(1, 21), fullIndex(3000, 1),
	}
}

// badKeys are none, nor prefixes, and not empty.
func badKeys() []string {
	return []string{"\x1f", "\x7f", "\x00", "\n", "\xff", "a\x1f", "\x7fa", "\u00e9", longKey() + "k", strings.Repeat("k", 100000)}
}

// badDelims are none.
func badDelims() []string {
	return []string{"\x1f", "\x7f", "\x00", "\n", "\xff", "//", "ab", "\u00e9", longKey(), strings.Repeat("/", 100000)}
}

// badMosts are not 0 to 1000.
func badMosts() []int {
	return []int{-1, -2, -1000, math.MinInt, 1001, 1002, 2000, 1 << 32, 1<<32 + 1, math.MaxInt}
}

// isGroup: does a thing have the delimiter behind the prefix?
func isGroup(thing, prefix, delim string) bool {
	return delim != "" && strings.Contains(thing[len(prefix):], delim)
}

// thingsOf is an index's things, as the document's words say it: gathered, sorted, each once.
func thingsOf(l []api.Entry, prefix, delim string) []string {
	var all []string
	for _, e := range l {
		rest, under := strings.CutPrefix(e.Key, prefix)
		if !under || e.L[0].Mark {
			continue
		}
		thing := e.Key
		if at := strings.Index(rest, delim); delim != "" && at >= 0 {
			thing = prefix + rest[:at] + delim
		}
		if !slices.Contains(all, thing) {
			all = append(all, thing)
		}
	}
	sort.Strings(all)
	return all
}

// keysOf is a page of keys, as the document's words say it.
func keysOf(l []api.Entry, prefix, delim, after string, most int) api.Page {
	var page api.Page
	var behind []string
	for _, thing := range thingsOf(l, prefix, delim) {
		if after == "" || strings.Compare(thing, after) > 0 {
			behind = append(behind, thing)
		}
	}
	page.More = len(behind) > most
	for _, thing := range behind[:min(most, len(behind))] {
		page.Last = thing
		if isGroup(thing, prefix, delim) {
			page.Groups = append(page.Groups, thing)
		} else {
			page.Keys = append(page.Keys, thing)
		}
	}
	return page
}

// rowsOf is an index's rows, as the document's words say it.
func rowsOf(l []api.Entry, prefix string) []api.Row {
	var all []api.Row
	for _, e := range l {
		for i := 0; strings.HasPrefix(e.Key, prefix) && i < len(e.L); i++ {
			all = append(all, api.Row{Key: e.Key, ID: e.L[i].ID, Latest: i == 0, Mark: e.L[i].Mark, Size: len(e.L[i].Data)})
		}
	}
	return all
}

// pageOf is a page of rows, as the document's words say it.
func pageOf(l []api.Entry, prefix, key string, id uint64, most int) ([]api.Row, bool, api.Errno) {
	all := rowsOf(l, prefix)
	if key != "" {
		at := slices.IndexFunc(all, func(r api.Row) bool { return r.Key == key && r.ID == id })
		if at < 0 {
			return nil, false, api.ErrNone
		}
		all = all[at+1:]
	}
	return all[:min(most, len(all))], len(all) > most, api.OK
}

// samePage: the same pages, a nil list as one without elements?
func samePage(a, b api.Page) bool {
	return slices.Equal(a.Keys, b.Keys) && slices.Equal(a.Groups, b.Groups) && a.More == b.More && a.Last == b.Last
}

// deep is the same index in memory of its own.
func deep(l []api.Entry) []api.Entry {
	var own []api.Entry
	for _, e := range l {
		own = append(own, ent(e.Key, slices.Clone(e.L)...))
	}
	return own
}

// same: the same indices?
func same(a, b []api.Entry) bool {
	return slices.EqualFunc(a, b, func(x, y api.Entry) bool { return x.Key == y.Key && slices.Equal(x.L, y.L) })
}

// TestThings: P7.1, of all small indices, under each prefix and delimiter; what is handed in stays.
func TestThings(t *testing.T) {
	for _, l := range smallIndices() {
		was := deep(l)
		for _, prefix := range []string{"", " ", "a", "a/", "a/b", "a/b/", "b", "b/", "b//", "c", longKey()} {
			for _, delim := range []string{"", "/", "b", " ", "~"} {
				want := thingsOf(l, prefix, delim)
				if got, e := Things(l, prefix, delim); !slices.Equal(got, want) || e != api.OK {
					t.Fatalf("Things(%v, %q, %q): %q, %d, want %q", l, prefix, delim, got, e, want)
				}
			}
		}
		if !same(l, was) {
			t.Fatalf("Things: %v is %v now", was, l)
		}
	}
}

// TestThingsByHand: P7.1, ordinary indices, and the edges.
func TestThingsByHand(t *testing.T) {
	group60 := strings.Repeat("g", 59) + "/"
	for i, c := range []struct {
		l             []api.Entry
		prefix, delim string
		want          []string
	}{
		{nil, "", "", nil}, {nil, "a", "/", nil}, {[]api.Entry{}, "", "/", nil},
		{[]api.Entry{live("a"), live("a/b"), live("a/c"), live("b")}, "", "", []string{"a", "a/b", "a/c", "b"}},
		{[]api.Entry{live("a"), live("a/b"), live("a/c"), live("b")}, "", "/", []string{"a", "a/", "b"}},
		{[]api.Entry{live("a"), live("a/b"), live("a/c"), live("b")}, "a", "/", []string{"a", "a/"}},
		{[]api.Entry{live("a"), live("a/b"), live("a/c"), live("b")}, "a/", "/", []string{"a/b", "a/c"}},
		// The key that is the prefix, and the one that is its group.
		{[]api.Entry{live("a/"), live("a/b")}, "a/", "/", []string{"a/", "a/b"}}, {[]api.Entry{live("a/")}, "", "/", []string{"a/"}}, {[]api.Entry{live("a/"), live("a//")}, "a/", "/", []string{"a/", "a//"}},
		// A key ahead of the group, and one behind it, that begin as it does.
		{[]api.Entry{live("a"), live("a."), live("a/x"), live("a/y"), live("a0")}, "", "/", []string{"a", "a.", "a/", "a0"}},
		// Of a group only the keys whose latest version is no Mark count.
		{[]api.Entry{gone("a/b"), live("a/c"), gone("a/d")}, "", "/", []string{"a/"}}, {[]api.Entry{gone("a/b"), gone("a/c")}, "", "/", nil}, {[]api.Entry{gone("a"), live("b"), gone("c")}, "", "", []string{"b"}},
		{[]api.Entry{ent("a", ver(2, 0), mark(1))}, "", "", []string{"a"}}, {[]api.Entry{ent("a", mark(0), ver(1, 1))}, "", "", nil}, {[]api.Entry{ent("a", api.Version{})}, "", "", []string{"a"}},
		// A delimiter that is a letter, the least octet, and the greatest one; one that begins a key.
		{[]api.Entry{live("abc"), live("adc")}, "", "c", []string{"abc", "adc"}}, {[]api.Entry{live("aba"), live("aca")}, "", "a", []string{"a"}}, {[]api.Entry{live("a b"), live("a c")}, "a", " ", []string{"a "}}, {[]api.Entry{live("x~"), live("x~~")}, "x", "~", []string{"x~"}}, {[]api.Entry{live("/"), live("//"), live("/a")}, "", "/", []string{"/"}},
		// As long as they may be.
		{[]api.Entry{live(group60), live(longKey())}, "", "/", []string{group60, longKey()}}, {[]api.Entry{live(longKey())}, longKey(), "k", []string{longKey()}}, {[]api.Entry{live(longKey())}, longKey()[:59], "k", []string{longKey()}},
	} {
		if got, e := Things(c.l, c.prefix, c.delim); !slices.Equal(got, c.want) || e != api.OK {
			t.Errorf("Things %d: %q, %d, want %q", i, got, e, c.want)
		}
	}
}

// TestThingsRefused: P7.1, each reason; nothing beside an error.
func TestThingsRefused(t *testing.T) {
	l := []api.Entry{live("a"), live("a/b")}
	refused := func(l []api.Entry, prefix, delim string) {
		if got, e := Things(l, prefix, delim); e != api.ErrArg || len(got) != 0 {
			t.Errorf("Things(%.80v, %.80q, %.80q): %q, %d", l, prefix, delim, got, e)
		}
	}
	for _, bad := range badIndices() {
		refused(bad, "", "")
		refused(bad, "zz", "/")
		refused(bad, "\n", "")
	}
	for _, bad := range badKeys() {
		refused(l, bad, "")
		refused(nil, bad, "/")
	}
	for _, bad := range badDelims() {
		refused(l, "", bad)
		refused(nil, "", bad)
		refused(l, "zz", bad)
	}
}

// TestKeys: P7.2, of all small indices, behind each text, with each most; what is handed in stays.
func TestKeys(t *testing.T) {
	for _, l := range smallIndices() {
		was := deep(l)
		for _, prefix := range []string{"", "a", "a/", "b/", "c"} {
			for _, delim := range []string{"", "/", "b"} {
				for _, after := range []string{"", " ", "a", "a.", "a/", "a/a", "a/b", "a/b/", "a/b/c", "a0", "b/", "b/y/", "~"} {
					for _, most := range []int{0, 1, 2, 3, 9, 1000} {
						want := keysOf(l, prefix, delim, after, most)
						if got, e := Keys(l, prefix, delim, after, most); !samePage(got, want) || e != api.OK {
							t.Fatalf("Keys(%v, %q, %q, %q, %d): %+v, %d, want %+v", l, prefix, delim, after, most, got, e, want)
						}
					}
				}
			}
		}
		if !same(l, was) {
			t.Fatalf("Keys: %v is %v now", was, l)
		}
	}
}

// TestKeysByHand: P7.2, ordinary pages, and the edges.
func TestKeysByHand(t *testing.T) {
	l := []api.Entry{live("a"), live("a/b"), gone("a/c"), live("a0"), live("b/c"), live("b/d"), gone("c"), live("d")}
	page := func(keys, groups []string, more bool, last string) api.Page {
		return api.Page{Keys: keys, Groups: groups, More: more, Last: last}
	}
	for i, c := range []struct {
		prefix, delim, after string
		most                 int
		want                 api.Page
	}{
		{"", "/", "", 1000, page([]string{"a", "a0", "d"}, []string{"a/", "b/"}, false, "d")},
		{"", "/", "", 5, page([]string{"a", "a0", "d"}, []string{"a/", "b/"}, false, "d")},
		{"", "/", "", 4, page([]string{"a", "a0"}, []string{"a/", "b/"}, true, "b/")},
		{"", "/", "", 1, page([]string{"a"}, nil, true, "a")},
		{"", "/", "", 0, page(nil, nil, true, "")},
		{"", "/", "c", 0, page(nil, nil, true, "")},
		{"", "/", "d", 0, page(nil, nil, false, "")},
		{"zz", "/", "", 0, page(nil, nil, false, "")},
		{"", "/", "a", 1, page(nil, []string{"a/"}, true, "a/")},
		{"", "/", "a/", 2, page([]string{"a0"}, []string{"b/"}, true, "b/")},
		// A group is not behind a key that begins with it.
		{"", "/", "a/b", 2, page([]string{"a0"}, []string{"b/"}, true, "b/")},
		{"", "/", "b/c", 2, page([]string{"d"}, nil, false, "d")},
		// It need not be there, nor under the prefix, nor a thing.
		{"", "/", "a-", 1, page(nil, []string{"a/"}, true, "a/")},
		{"", "", "c", 9, page([]string{"d"}, nil, false, "d")},
		{"b/", "/", "a", 9, page([]string{"b/c", "b/d"}, nil, false, "b/d")},
		{"a", "/", "b", 9, page(nil, nil, false, "")},
		{"", "", "", 3, page([]string{"a", "a/b", "a0"}, nil, true, "a0")},
		{"", "", "~", 9, page(nil, nil, false, "")},
		{"", "", longKey(), 9, page(nil, nil, false, "")},
		{"", "", " ", 1, page([]string{"a"}, nil, true, "a")},
	} {
		if got, e := Keys(l, c.prefix, c.delim, c.after, c.most); !samePage(got, c.want) || e != api.OK {
			t.Errorf("Keys %d: %+v, %d, want %+v", i, got, e, c.want)
		}
	}
}

// TestKeysRefused: P7.2, each reason; nothing beside an error.
func TestKeysRefused(t *testing.T) {
	l := []api.Entry{live("a"), live("a/b")}
	refused := func(l []api.Entry, prefix, delim, after string, most int) {
		if got, e := Keys(l, prefix, delim, after, most); e != api.ErrArg || !samePage(got, api.Page{}) {
			t.Errorf("Keys(%.80v, %.80q, %.80q, %.80q, %d): %+v, %d", l, prefix, delim, after, most, got, e)
		}
	}
	for _, bad := range badIndices() {
		refused(bad, "", "", "", 9)
		refused(bad, "", "/", "a", 0)
	}
	for _, bad := range badKeys() {
		refused(l, bad, "", "", 9)
		refused(l, "", "", bad, 9)
		refused(nil, "", "/", bad, 0)
	}
	for _, bad := range badDelims() {
		refused(l, "", bad, "", 9)
		refused(nil, "", bad, "", 0)
	}
	for _, bad := range badMosts() {
		refused(l, "", "", "", bad)
		refused(nil, "", "/", "a", bad)
	}
	for _, most := range []int{0, 1, 999, 1000} {
		if _, e := Keys(l, longKey(), "~", longKey(), most); e != api.OK {
			t.Errorf("Keys, most %d: %d", most, e)
		}
	}
}

// TestRows: P7.3, of all small indices, behind each version, and behind such as there are not; what is handed in stays.
func TestRows(t *testing.T) {
	for _, l := range smallIndices() {
		was := deep(l)
		for _, prefix := range []string{"", "a", "a/", "a/b", "b//", "c"} {
			for _, key := range []string{"", "a", "a/", "a/b", "a/b/c", "a0", "b/y/z", "b", "~"} {
				for id := range uint64(5) {
					for _, most := range []int{0, 1, 2, 5, 1000} {
						want, wantMore, wantErr := pageOf(l, prefix, key, id, most)
						got, more, e := Rows(l, prefix, key, id, most)
						if !slices.Equal(got, want) || more != wantMore || e != wantErr {
							t.Fatalf("Rows(%v, %q, %q, %d, %d): %v, %v, %d, want %v, %v, %d", l, prefix, key, id, most, got, more, e, want, wantMore, wantErr)
						}
					}
				}
			}
		}
		if !same(l, was) {
			t.Fatalf("Rows: %v is %v now", was, l)
		}
	}
}

// TestRowsByHand: P7.3, ordinary pages, and the edges.
func TestRowsByHand(t *testing.T) {
	l := []api.Entry{ent("a", mark(0), ver(5, 2), ver(1, 0)), ent("a/b", ver(1<<48-1, 2000)), ent("b", ver(5, 1), mark(4))}
	all := []api.Row{{Key: "a", Latest: true, Mark: true}, {Key: "a", ID: 5, Size: 2}, {Key: "a", ID: 1}, {Key: "a/b", ID: 1<<48 - 1, Latest: true, Size: 2000}, {Key: "b", ID: 5, Latest: true, Size: 1}, {Key: "b", ID: 4, Mark: true}}
	for i, c := range []struct {
		prefix, key string
		id          uint64
		most        int
		want        []api.Row
		more        bool
		wantErr     api.Errno
	}{
		{"", "", 0, 1000, all, false, api.OK}, {"", "", 0, 6, all, false, api.OK}, {"", "", 0, 5, all[:5], true, api.OK}, {"", "", 0, 1, all[:1], true, api.OK}, {"", "", 0, 0, nil, true, api.OK},
		// Without a key the ID says nothing.
		{"", "", 5, 6, all, false, api.OK}, {"", "", 7, 6, all, false, api.OK}, {"", "", math.MaxUint64, 2, all[:2], true, api.OK},
		{"", "a", 0, 1, all[1:2], true, api.OK}, {"", "a", 5, 2, all[2:4], true, api.OK}, {"", "a", 1, 9, all[3:], false, api.OK}, {"", "a/b", 1<<48 - 1, 9, all[4:], false, api.OK}, {"", "b", 5, 1, all[5:], false, api.OK}, {"", "b", 5, 0, nil, true, api.OK}, {"", "b", 4, 1, nil, false, api.OK}, {"", "b", 4, 0, nil, false, api.OK},
		{"a", "", 0, 9, all[:4], false, api.OK}, {"a", "", 0, 4, all[:4], false, api.OK}, {"a", "", 0, 3, all[:3], true, api.OK}, {"a", "a", 1, 9, all[3:4], false, api.OK}, {"a/", "", 0, 9, all[3:4], false, api.OK}, {"b", "b", 5, 9, all[5:], false, api.OK}, {"c", "", 0, 9, nil, false, api.OK}, {"c", "", 0, 0, nil, false, api.OK}, {longKey(), "", 0, 9, nil, false, api.OK},
		// No such key, no such ID of it (though another key has it), not under the prefix.
		{"", "c", 5, 9, nil, false, api.ErrNone}, {"", "a/", 0, 9, nil, false, api.ErrNone}, {"", longKey(), 0, 9, nil, false, api.ErrNone}, {"", "a", 4, 9, nil, false, api.ErrNone}, {"", "b", 0, 9, nil, false, api.ErrNone}, {"", "b", 1, 0, nil, false, api.ErrNone}, {"", "a/b", 1 << 48, 9, nil, false, api.ErrNone}, {"", "a", math.MaxUint64, 9, nil, false, api.ErrNone},
		{"a/", "a", 5, 9, nil, false, api.ErrNone}, {"a", "b", 5, 9, nil, false, api.ErrNone}, {"c", "b", 5, 0, nil, false, api.ErrNone}, {"b", "a", 0, 1000, nil, false, api.ErrNone},
	} {
		if got, more, e := Rows(l, c.prefix, c.key, c.id, c.most); !slices.Equal(got, c.want) || more != c.more || e != c.wantErr {
			t.Errorf("Rows %d: %v, %v, %d, want %v, %v, %d", i, got, more, e, c.want, c.more, c.wantErr)
		}
	}
	if got, more, e := Rows(nil, "", "", 0, 9); len(got) != 0 || more || e != api.OK {
		t.Errorf("Rows of none: %v, %v, %d", got, more, e)
	}
	if got, more, e := Rows(nil, "", "a", 0, 9); len(got) != 0 || more || e != api.ErrNone {
		t.Errorf("Rows of none behind one: %v, %v, %d", got, more, e)
	}
}

// TestRowsMost: P7.3, more rows than a page has at the most.
func TestRowsMost(t *testing.T) {
	l := fullIndex(60, 20)
	all := rowsOf(l, "")
	for _, most := range []int{0, 1, 999, 1000} {
		if got, more, e := Rows(l, "", "", 0, most); !slices.Equal(got, all[:most]) || !more || e != api.OK {
			t.Errorf("Rows, most %d: %d, %v, %d", most, len(got), more, e)
		}
	}
	for at, wantMore := range map[int]bool{198: true, 199: false, 200: false, 1199: false} {
		want := all[at+1 : min(at+1001, 1200)]
		if got, more, e := Rows(l, "", all[at].Key, all[at].ID, 1000); !slices.Equal(got, want) || more != wantMore || e != api.OK {
			t.Errorf("Rows behind %d: %d, %v, %d", at, len(got), more, e)
		}
	}
}

// TestRowsRefused: P7.3, each reason, ahead of ErrNone; nothing beside an error.
func TestRowsRefused(t *testing.T) {
	l := []api.Entry{live("a"), live("a/b")}
	refused := func(l []api.Entry, prefix, key string, id uint64, most int) {
		if got, more, e := Rows(l, prefix, key, id, most); e != api.ErrArg || more || len(got) != 0 {
			t.Errorf("Rows(%.80v, %.80q, %.80q, %d, %d): %v, %v, %d", l, prefix, key, id, most, got, more, e)
		}
	}
	for _, bad := range badIndices() {
		refused(bad, "", "", 0, 9)
		refused(bad, "", "zz", 7, 9)
	}
	for _, bad := range badKeys() {
		refused(l, bad, "", 0, 9)
		refused(l, bad, "a", 9, 9)
		refused(l, "", bad, 0, 9)
		refused(nil, "", bad, 9, 0)
	}
	for _, bad := range badMosts() {
		refused(l, "", "", 0, bad)
		refused(l, "", "a", 2, bad)
		refused(l, "", "zz", 9, bad)
		refused(nil, "", "", 0, bad)
	}
}

// allThings is all things, page by page, and whether the pages' More and Last are as they should be.
func allThings(l []api.Entry, prefix, delim string, most int) ([]string, bool) {
	var all []string
	after := ""
	// Each page tells one at the least, so there are no more pages than there may be keys, and one.
	for range api.MaxKeys + 1 {
		page, e := Keys(l, prefix, delim, after, most)
		told := slices.Concat(page.Keys, page.Groups)
		sort.Strings(told)
		if e != api.OK || len(told) > most || page.More && (len(told) != most || page.Last != told[most-1]) {
			return nil, false
		}
		all = append(all, told...)
		if !page.More {
			return all, true
		}
		after = page.Last
	}
	return nil, false
}

// TestKeysPageByPage: P7.4, one gets all things, in order, each once.
func TestKeysPageByPage(t *testing.T) {
	for _, l := range append(smallIndices(), fullIndex(60, 1)) {
		for _, prefix := range []string{"", "a", "a/", "0"} {
			for _, delim := range []string{"", "/", "b", "0"} {
				want, e := Things(l, prefix, delim)
				for _, most := range []int{1, 2, 3, 7, 1000} {
					if got, ok := allThings(l, prefix, delim, most); !ok || !slices.Equal(got, want) || e != api.OK {
						t.Fatalf("Keys(%v, %q, %q), %d a page: %q, want %q", l, prefix, delim, most, got, want)
					}
				}
				if !slices.IsSorted(want) || len(slices.Compact(slices.Clone(want))) != len(want) {
					t.Fatalf("Things(%v, %q, %q): %q", l, prefix, delim, want)
				}
			}
		}
	}
}

// allRows is all rows, page by page, and whether each page is as long as it should be.
func allRows(l []api.Entry, prefix string, most int) ([]api.Row, bool) {
	var all []api.Row
	last := api.Row{}
	// Likewise with pages and versions.
	for range api.MaxKeys*api.MaxVersions + 1 {
		page, more, e := Rows(l, prefix, last.Key, last.ID, most)
		if e != api.OK || len(page) > most || more && len(page) != most {
			return nil, false
		}
		all = append(all, page...)
		if !more {
			return all, true
		}
		last = page[most-1]
	}
	return nil, false
}

// TestRowsPageByPage: P7.4, so with rows.
func TestRowsPageByPage(t *testing.T) {
	for _, l := range append(smallIndices(), fullIndex(60, 20)) {
		for _, prefix := range []string{"", "a", "a/", "b//x", "0"} {
			want := rowsOf(l, prefix)
			for _, most := range []int{1, 2, 3, 7, 1000} {
				if got, ok := allRows(l, prefix, most); !ok || !slices.Equal(got, want) {
					t.Fatalf("Rows(%.200v, %q), %d a page: %.200v, want %.200v", l, prefix, most, got, want)
				}
			}
		}
	}
}

// TestOwnLists: P7.1 to P7.3, the lists of an answer share no memory with each other, nor with those of another one.
func TestOwnLists(t *testing.T) {
	l := []api.Entry{live("a"), live("a/b"), live("b"), live("b/c")}
	page, _ := Keys(l, "", "/", "", 9)
	page.Keys = append(page.Keys, "spoilt", "spoilt")
	page.Keys[0], page.Keys[1] = "spoilt", "spoilt"
	if !slices.Equal(page.Groups, []string{"a/", "b/"}) {
		t.Errorf("Keys: the groups have the keys' memory: %q", page.Groups)
	}
	things, _ := Things(l, "", "")
	things[0] = "spoilt"
	rows, _, _ := Rows(l, "", "", 0, 9)
	rows[0] = api.Row{Key: "spoilt"}
	again, _ := Things(l, "", "")
	rowsAgain, _, _ := Rows(l, "", "", 0, 9)
	if again[0] != "a" || rowsAgain[0].Key != "a" || l[0].Key != "a" {
		t.Error("what was answered is kept")
	}
}

// TestExamples: the chapter's examples.
func TestExamples(t *testing.T) {
	l := []api.Entry{live("a"), live("a/b"), live("a/c"), live("b")}
	if got, e := Things(l, "", "/"); !slices.Equal(got, []string{"a", "a/", "b"}) || e != api.OK {
		t.Errorf("Things: %q, %d", got, e)
	}
	if got, e := Things(l, "a/", "/"); !slices.Equal(got, []string{"a/b", "a/c"}) || e != api.OK {
		t.Errorf("Things under a/: %q, %d", got, e)
	}
	want := api.Page{Groups: []string{"a/"}, More: true, Last: "a/"}
	if got, e := Keys(l, "", "/", "a", 1); !samePage(got, want) || e != api.OK {
		t.Errorf("Keys behind a: %+v, %d", got, e)
	}
}
