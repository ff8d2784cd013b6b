// Package name is layer 1, bucket names and object keys: see shared/doc/01-name.md.
package name

import (
	"cellarer/api"
)

const (
	leastBucket = 3   // octets of a bucket's name
	firstOctet  = 32  // of keys, prefixes and delimiters
	lastOctet   = 126 // of them, likewise
)

// kind is a kind of texts: how many octets they have, and which octets may stand in them.
type kind struct {
	least, most int
	may         func(c byte) bool
}

func (k kind) has(s string) bool {
	if len(s) < k.least || len(s) > k.most {
		return false
	}
	for i := range len(s) {
		if !k.may(s[i]) {
			return false
		}
	}
	return true
}

func bucketOctet(c byte) bool {
	return 'a' <= c && c <= 'z' || '0' <= c && c <= '9' || c == '-'
}

func keyOctet(c byte) bool {
	return firstOctet <= c && c <= lastOctet
}

// Bucket: is a text a bucket's name?
func Bucket(s string) bool {
	names := kind{least: leastBucket, most: api.MaxBucket, may: bucketOctet}
	return names.has(s) && s[0] != '-' && s[len(s)-1] != '-'
}

// Key: is a text a key?
func Key(s string) bool {
	return kind{least: 1, most: api.MaxKey, may: keyOctet}.has(s)
}

// Prefix: is a text a prefix?
func Prefix(s string) bool {
	return kind{least: 0, most: api.MaxKey, may: keyOctet}.has(s)
}

// Delim: is a text a delimiter?
func Delim(s string) bool {
	return kind{least: 0, most: 1, may: keyOctet}.has(s)
}

// Under: does a text begin with another one?
func Under(key, prefix string) bool {
	return len(key) >= len(prefix) && key[:len(prefix)] == prefix
}

// Group is a key's group, and whether it has one.
func Group(key, prefix, delim string) (string, bool) {
	if !Key(key) || !Prefix(prefix) || !Delim(delim) {
		return "", false
	}
	if delim == "" || !Under(key, prefix) {
		return "", false
	}
	for i := len(prefix); i < len(key); i++ {
		if key[i] == delim[0] {
			return key[:i+1], true
		}
	}
	return "", false
}

// After is the least text behind all that begin with a prefix; empty, if there is none.
func After(prefix string) string {
	if !Prefix(prefix) {
		return ""
	}
	// No octet is behind the last one, so an octet ahead of it must rise instead.
	n := len(prefix)
	for n > 0 && prefix[n-1] == lastOctet {
		n--
	}
	if n == 0 {
		return ""
	}
	return prefix[:n-1] + string([]byte{prefix[n-1] + 1})
}
