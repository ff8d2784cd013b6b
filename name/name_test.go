package name

import (
	"strings"
	"testing"

	"cellarer/api"
)

// octets of which small texts are made: both edges, their neighbours, and some between.
const small = " !/a}~"

// texts is all texts of small octets that have at most n octets.
func texts(n int) []string {
	all := []string{""}
	last := all
	for range n {
		var next []string
		for _, s := range last {
			for i := range len(small) {
				next = append(next, s+small[i:i+1])
			}
		}
		all = append(all, next...)
		last = next
	}
	return all
}

func isKeyOctet(c int) bool { return c >= 32 && c <= 126 }

func isBucketOctet(c int) bool {
	return strings.IndexByte("abcdefghijklmnopqrstuvwxyz0123456789-", byte(c)) >= 0
}

// TestBucketLengths: P1.1, a bucket's name has 3 to 20 octets.
func TestBucketLengths(t *testing.T) {
	for n := range 300 {
		want := n >= 3 && n <= 20
		if got := Bucket(strings.Repeat("b", n)); got != want {
			t.Errorf("Bucket of %d octets: %v", n, got)
		}
	}
}

// TestBucketOctets: P1.1, each octet of a bucket's name, at each place; a - at neither end.
func TestBucketOctets(t *testing.T) {
	for _, n := range []int{3, 4, 11, api.MaxBucket} {
		for i := range n {
			for c := range 256 {
				s := []byte(strings.Repeat("b", n))
				s[i] = byte(c)
				want := isBucketOctet(c) && (c != '-' || i > 0 && i < n-1)
				if got := Bucket(string(s)); got != want {
					t.Errorf("Bucket(%q): %v", s, got)
				}
			}
		}
	}
}

// TestBucketNames: P1.1, names as they come, and what is none.
func TestBucketNames(t *testing.T) {
	for _, s := range []string{"box", "b-1", "000", "9-9", "a--b", "a-b-c-d-e-f-g-h-i-jk", "abcdefghijklmnopqrst", "uvwxyz0123456789"} {
		if !Bucket(s) {
			t.Errorf("Bucket(%q): false", s)
		}
	}
	for _, s := range []string{"", "-", "--", "---", "-a-", "-box", "box-", "bo", "Box", "b_x", "b.x", "b x", "b/x", "bo\u00e9", "box\x00", "\xff\xfe\xfd", "abcdefghijklmnopqrstu", "-" + strings.Repeat("a", 19), strings.Repeat("a", 19) + "-"} {
		if Bucket(s) {
			t.Errorf("Bucket(%q): true", s)
		}
	}
}

// TestKeyAndPrefixLengths: P1.1, a key has 1 to 60 octets, a prefix 0 to 60, a delimiter 0 or 1.
func TestKeyAndPrefixLengths(t *testing.T) {
	for n := range 400 {
		s := strings.Repeat("k", n)
		if got, want := Key(s), n >= 1 && n <= 60; got != want {
			t.Errorf("Key of %d octets: %v", n, got)
		}
		if got, want := Prefix(s), n <= 60; got != want {
			t.Errorf("Prefix of %d octets: %v", n, got)
		}
		if got, want := Delim(s), n <= 1; got != want {
			t.Errorf("Delim of %d octets: %v", n, got)
		}
	}
}

// TestKeyAndPrefixOctets: P1.1, octets 32 to 126 and no others, at each place.
func TestKeyAndPrefixOctets(t *testing.T) {
	for c := range 256 {
		want := isKeyOctet(c)
		if got := Delim(string([]byte{byte(c)})); got != want {
			t.Errorf("Delim of octet %d: %v", c, got)
		}
		for _, n := range []int{1, 2, 7, api.MaxKey} {
			for i := range n {
				s := []byte(strings.Repeat("k", n))
				s[i] = byte(c)
				if got := Key(string(s)); got != want {
					t.Errorf("Key(%q): %v", s, got)
				}
				if got := Prefix(string(s)); got != want {
					t.Errorf("Prefix(%q): %v", s, got)
				}
			}
		}
	}
	if Delim("\u00e9") || Key("\u00e9") || Prefix("\u00e9") {
		t.Error("octets above 126 were taken as a letter")
	}
}

// TestUnder: P1.1, whatever the texts are: neither has to be a key or a prefix.
func TestUnder(t *testing.T) {
	long := strings.Repeat("x", 5000)
	for _, c := range []struct {
		key, prefix string
		want        bool
	}{
		{"abc", "ab", true}, {"abc", "abc", true}, {"abc", "abcd", false}, {"abc", "b", false}, {"abc", "bc", false},
		{"abc", "ac", false}, {"abc", "AB", false}, {"abc", "", true}, {"", "", true}, {"", "a", false},
		{"\x00\xffz", "\x00\xff", true}, {"\x00\xffz", "\x00\xfe", false}, {"\xc3\xa9", "\xc3", true},
		{long, long[1:], true}, {long[1:], long, false}, {long, long, true},
	} {
		if got := Under(c.key, c.prefix); got != c.want {
			t.Errorf("Under(%q, %q): %v", c.key, c.prefix, got)
		}
	}
	for _, s := range texts(3) {
		for _, p := range texts(2) {
			if got, want := Under(s, p), strings.HasPrefix(s, p); got != want {
				t.Errorf("Under(%q, %q): %v", s, p, got)
			}
		}
	}
}

// TestGroup: P1.2, groups as they come, at the edges, and of wrong inputs.
func TestGroup(t *testing.T) {
	k60 := strings.Repeat("k", 60)
	for _, c := range []struct {
		key, prefix, delim, want string
		is                       bool
	}{
		{"a/b/c", "a/", "/", "a/b/", true},
		{"a/b/c", "", "/", "a/", true},
		{"a/b/c", "a", "/", "a/", true},
		{"a/b/c", "a/b", "/", "a/b/", true},
		{"a/b/", "a/", "/", "a/b/", true}, // the group is the whole key
		{"a//b", "a/", "/", "a//", true},  // the delimiter stands first behind the prefix
		{"/", "", "/", "/", true},
		{"a b", "", " ", "a ", true},
		{"a~b", "a", "~", "a~", true},
		{"aab", "a", "a", "aa", true},
		{k60[:59] + "/", "", "/", k60[:59] + "/", true},
		{k60[:59] + "/", k60[:59], "/", k60[:59] + "/", true},
		{"a/b", "a/", "/", "", false},   // no delimiter behind the prefix
		{"a/", "a/", "/", "", false},    // nothing behind the prefix
		{"a/b", "a/b", "/", "", false},  // nor here
		{"a/b/c", "b", "/", "", false},  // not under the prefix
		{"a/b", "a/b/", "/", "", false}, // the prefix is longer
		{"abc", "", "/", "", false},
		{"a/b", "", "", "", false}, // an empty delimiter
		{"a/b", "a", "", "", false},
		{k60, k60, "/", "", false},
		{"", "", "/", "", false}, // no key
		{"", "", "", "", false},
		{"a/\x7f", "", "/", "", false},
		{"a/\n", "", "/", "", false},
		{k60 + "/", "", "/", "", false},
		{"a/" + k60, "", "/", "", false},
		{"\x1f/", "\x1f", "/", "", false}, // no prefix
		{"a/b", "\x80", "/", "", false},
		{"a/b", k60 + "k", "/", "", false},
		{"a//b", "", "//", "", false}, // no delimiter
		{"a/b", "", "/b", "", false},
		{"a\nb", "", "\n", "", false},
		{"a/b", "", "\x00", "", false},
	} {
		if got, is := Group(c.key, c.prefix, c.delim); got != c.want || is != c.is {
			t.Errorf("Group(%q, %q, %q): %q, %v", c.key, c.prefix, c.delim, got, is)
		}
	}
}

// TestGroupOctets: P1.2, each octet as a delimiter, and as a part of a key and of a prefix.
func TestGroupOctets(t *testing.T) {
	for c := range 256 {
		o := string([]byte{byte(c)})
		if got, is := Group("__"+o+"_", "_", o); is != isKeyOctet(c) || is && c != '_' && got != "__"+o || !is && got != "" {
			t.Errorf("Group by octet %d: %q, %v", c, got, is)
		}
		if got, is := Group(o+"_/_", o, "/"); is != isKeyOctet(c) || is && got != o+"_/" || !is && got != "" {
			t.Errorf("Group under octet %d: %q, %v", c, got, is)
		}
	}
}

// TestAfter: P1.3, ordinary prefixes, those that end in ~, and wrong ones.
func TestAfter(t *testing.T) {
	k59, t59 := strings.Repeat("k", 59), strings.Repeat("~", 59)
	for _, c := range []struct{ prefix, want string }{
		{"ab", "ac"}, {"a", "b"}, {"a/", "a0"}, {" ", "!"}, {"a ", "a!"}, {"}", "~"}, {"a}", "a~"},
		{"a~", "b"}, {"a~~~", "b"}, {"a~b", "a~c"}, {"~a", "~b"}, {"~a~", "~b"}, {"}~", "~"}, {" ~", "!"}, {"~ ~", "~!"},
		{"~", ""}, {"~~", ""}, {"", ""}, {t59, ""}, {t59 + "~", ""}, {t59 + "}", t59 + "~"},
		{k59 + "a", k59 + "b"}, {k59 + "~", k59[:58] + "l"}, {"a" + t59, "b"},
		{k59 + "ab", ""}, {"\n", ""}, {"a\x1f", ""}, {"\x7f", ""}, {"a\x7f", ""}, {"\x00", ""}, {"\xff", ""}, {"\u00e9", ""}, {"a\x7fb", ""},
	} {
		if got := After(c.prefix); got != c.want {
			t.Errorf("After(%q): %q", c.prefix, got)
		}
	}
	for c := 32; c < 126; c++ {
		if got, want := After("k"+string(rune(c))), "k"+string(rune(c+1)); got != want {
			t.Errorf("After of octet %d: %q", c, got)
		}
	}
}

// behindAll: is a text behind all texts that begin with a prefix? It is, if it is greater than the prefix, and does not begin with it.
func behindAll(s, prefix string) bool { return s > prefix && !strings.HasPrefix(s, prefix) }

// TestAfterIsLeast: P1.3, by its words, over all small texts.
func TestAfterIsLeast(t *testing.T) {
	all := texts(4)
	for _, p := range texts(3) {
		after := After(p)
		if after != "" && (!behindAll(after, p) || !Prefix(after)) {
			t.Errorf("After(%q): %q is not behind it", p, after)
		}
		for _, s := range all {
			if behindAll(s, p) && (after == "" || s < after) {
				t.Errorf("After(%q): %q, but %q is less", p, after, s)
				break
			}
		}
	}
}

// TestGroupFollows: P1.4, a group begins with the prefix and ends with the delimiter, and all keys that begin with it have it.
func TestGroupFollows(t *testing.T) {
	groups := 0
	for _, key := range texts(4) {
		for _, prefix := range texts(2) {
			for i := range len(small) {
				delim := small[i : i+1]
				g, is := Group(key, prefix, delim)
				if !is {
					continue
				}
				groups++
				if !strings.HasPrefix(key, g) || !strings.HasPrefix(g, prefix) || !strings.HasSuffix(g[len(prefix):], delim) {
					t.Fatalf("Group(%q, %q, %q): %q", key, prefix, delim, g)
				}
				for _, rest := range texts(1) {
					if h, is := Group(g+rest, prefix, delim); !is || h != g {
						t.Fatalf("Group(%q, %q, %q): %q, %v; the group is %q", g+rest, prefix, delim, h, is, g)
					}
				}
			}
		}
	}
	if groups == 0 {
		t.Error("no groups")
	}
}

// TestKeysUnderAPrefix: P1.4, a key that begins with a prefix is not less than it, and less than After; a key that is so begins with it.
func TestKeysUnderAPrefix(t *testing.T) {
	keys := append(texts(4), strings.Repeat("~", 60), "a"+strings.Repeat("~", 59))
	for _, p := range texts(3) {
		after := After(p)
		for _, k := range keys {
			if !Key(k) {
				continue
			}
			if got, want := k >= p && (after == "" || k < after), Under(k, p); got != want {
				t.Fatalf("key %q, prefix %q, After %q: between them %v, under it %v", k, p, after, got, want)
			}
		}
	}
}
