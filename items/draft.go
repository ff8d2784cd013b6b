package items

import (
	"cmp"
	"slices"
	"strings"

	"cellarer/api"
	"cellarer/bucket"
	"cellarer/wire"
)

// keyIn is a key of a bucket.
type keyIn struct{ bucket, key string }

// uploadIn is an upload of a bucket.
type uploadIn struct {
	bucket string
	id     uint64
}

// standing is a version, and how many stand behind it.
type standing struct {
	api.Version
	behind uint64
}

// draft is what items tell of a depot, each by what it is of: names of items rise otherwise than what they are of does, as numbers in them are laid with the lowest octet first.
type draft struct {
	now      int
	buckets  map[string]api.Bucket
	versions map[keyIn][]standing
	uploads  map[uploadIn]api.Upload
	parts    map[uploadIn][]api.Part
}

// num is the number with which octets begin; 0, if they are too short.
func num(s string) uint64 {
	n, _, _ := wire.TakeNum(s)
	return n
}

// take gathers what an item tells; nothing, if it is of no kind.
func (d *draft) take(x api.Item) {
	texts, _ := wire.Whole(x.Val)
	if x.Name == "" {
		return
	}
	kind, of := x.Name[:1], x.Name[1:]
	in, rest, _ := strings.Cut(of, end)
	switch {
	case kind == ofTime && len(texts) == 1:
		d.now = int(num(texts[0]))
	case kind == ofBucket && len(texts) == 2:
		b, _ := bucket.New(of)
		b.State, b.Last = int(num(texts[0])), num(texts[1])
		d.buckets[of] = b
	case kind == ofVersion && len(texts) == 4:
		key, id, _ := strings.Cut(rest, end)
		v := api.Version{ID: num(id), At: int(num(texts[1])), Mark: num(texts[2]) == markNum(true), Data: texts[3]}
		k := keyIn{in, key}
		d.versions[k] = append(d.versions[k], standing{v, num(texts[0])})
	case kind == ofUpload && len(texts) == 1:
		id := num(rest)
		d.uploads[uploadIn{in, id}] = api.Upload{ID: id, Key: texts[0]}
	case kind == ofPart && len(texts) == 1:
		id, n, _ := wire.TakeNum(rest)
		u := uploadIn{in, id}
		d.parts[u] = append(d.parts[u], api.Part{N: int(num(n)), Data: texts[0]})
	}
}

// chainOf is versions, those ahead of which more stand behind them.
func chainOf(l []standing) []api.Version {
	slices.SortFunc(l, func(x, y standing) int { return cmp.Compare(y.behind, x.behind) })
	var c []api.Version
	for _, v := range l {
		c = append(c, v.Version)
	}
	return c
}

// layVersions lays the versions in their buckets. What has no bucket is left out.
func (d *draft) layVersions() {
	for in, l := range d.versions {
		if b, isThere := d.buckets[in.bucket]; isThere {
			b.L = append(b.L, api.Entry{Key: in.key, L: chainOf(l)})
			d.buckets[in.bucket] = b
		}
	}
}

// layUploads lays the uploads, and their parts, in their buckets. What has no upload, or no bucket, is left out.
func (d *draft) layUploads() {
	for in, u := range d.uploads {
		u.L = d.parts[in]
		slices.SortFunc(u.L, func(x, y api.Part) int { return cmp.Compare(x.N, y.N) })
		if b, isThere := d.buckets[in.bucket]; isThere {
			b.Up = append(b.Up, u)
			d.buckets[in.bucket] = b
		}
	}
}

// depot is what was gathered, put together.
func (d *draft) depot() api.Depot {
	d.layVersions()
	d.layUploads()
	all := api.Depot{Now: d.now}
	for _, b := range d.buckets {
		slices.SortFunc(b.L, func(x, y api.Entry) int { return cmp.Compare(x.Key, y.Key) })
		slices.SortFunc(b.Up, func(x, y api.Upload) int { return cmp.Compare(x.ID, y.ID) })
		all.L = append(all.L, b)
	}
	slices.SortFunc(all.L, func(x, y api.Bucket) int { return cmp.Compare(x.Name, y.Name) })
	return all
}

// drafted is the depot that items tell, if they are a depot's; else it is any one, that need not be one that may be.
func drafted(l []api.Item) api.Depot {
	d := draft{
		buckets:  map[string]api.Bucket{},
		versions: map[keyIn][]standing{},
		uploads:  map[uploadIn]api.Upload{},
		parts:    map[uploadIn][]api.Part{},
	}
	for _, x := range l {
		d.take(x)
	}
	return d.depot()
}
