package ring

import (
	"bytes"
	"math"
	"math/rand"
	"reflect"
	"slices"
	"testing"

	"gateline/api"
)

// key is a right key, whose secret no other Id has.
func key(id, from, to int) api.Key {
	return api.Key{Id: id, Secret: []byte{byte(id), 7, byte(from)}, From: from, To: to}
}

// keys is right keys of those Ids, in their order.
func keys(ids ...int) []api.Key {
	l := []api.Key{}
	for _, id := range ids {
		l = append(l, key(id, 10*id, 10*id+20))
	}
	return l
}

// whole is the ring of all Ids that there are.
func whole() []api.Key {
	l := []api.Key{}
	for id := range 100 {
		l = append(l, key(id, id, 99999-id))
	}
	return l
}

// copied is l in other memory, down to the secrets.
func copied(l []api.Key) []api.Key {
	out := make([]api.Key, len(l))
	for i, k := range l {
		out[i] = k
		out[i].Secret = bytes.Clone(k.Secret)
	}
	return out
}

func same(a, b []api.Key) bool {
	return slices.EqualFunc(a, b, sameKey)
}

func sameKey(a, b api.Key) bool {
	return a.Id == b.Id && a.From == b.From && a.To == b.To && bytes.Equal(a.Secret, b.Secret)
}

func none(k api.Key) bool {
	return reflect.DeepEqual(k, api.Key{})
}

// rightEdges is right keys, at each bound of what is right.
func rightEdges() []api.Key {
	return []api.Key{
		{Id: 0, Secret: []byte{0}, From: 0, To: 0},
		{Id: 99, Secret: []byte{1}, From: 0, To: 99999},
		{Id: 50, Secret: make([]byte, 64), From: 99999, To: 99999},
		{Id: 50, Secret: make([]byte, 63), From: 99998, To: 99999},
		{Id: 50, Secret: []byte{1, 2}, From: 7, To: 7},
		{Id: 50, Secret: []byte{1, 2}, From: 7, To: 8},
		{Id: 50, Secret: make([]byte, 1, 200), From: 1, To: 2},
	}
}

// wrongKeys is keys that each break one rule of what is right, most of them by one.
func wrongKeys() []api.Key {
	secret := []byte{1, 2, 3}
	return []api.Key{
		{},
		{Id: -1, Secret: secret, From: 0, To: 5},
		{Id: 100, Secret: secret, From: 0, To: 5},
		{Id: math.MinInt, Secret: secret, From: 0, To: 5},
		{Id: math.MaxInt, Secret: secret, From: 0, To: 5},
		{Id: 50, Secret: nil, From: 0, To: 5},
		{Id: 50, Secret: []byte{}, From: 0, To: 5},
		{Id: 50, Secret: make([]byte, 0, 10), From: 0, To: 5},
		{Id: 50, Secret: make([]byte, 65), From: 0, To: 5},
		{Id: 50, Secret: make([]byte, 1000), From: 0, To: 5},
		{Id: 50, Secret: secret, From: -1, To: 5},
		{Id: 50, Secret: secret, From: -5, To: -1},
		{Id: 50, Secret: secret, From: 0, To: -1},
		{Id: 50, Secret: secret, From: 0, To: 100000},
		{Id: 50, Secret: secret, From: 100000, To: 100000},
		{Id: 50, Secret: secret, From: 100000, To: 5},
		{Id: 50, Secret: secret, From: 6, To: 5},
		{Id: 50, Secret: secret, From: 99999, To: 0},
		{Id: 50, Secret: secret, From: math.MinInt, To: math.MaxInt},
		{Id: 50, Secret: secret, From: math.MaxInt, To: math.MinInt},
	}
}

// noRings is lists that are no ring, each of them of right keys alone, or with one wrong key.
func noRings() [][]api.Key {
	lists := [][]api.Key{
		keys(5, 5),
		keys(6, 5),
		keys(1, 2, 2),
		keys(1, 1, 2),
		keys(1, 3, 2),
		keys(3, 1, 2),
		keys(99, 0),
		keys(1, 2, 3, 4, 0),
		append(whole(), key(99, 0, 1)),
		append(whole(), key(50, 0, 1)),
	}
	for _, k := range wrongKeys() {
		lists = append(lists, []api.Key{k})
	}
	for _, k := range wrongKeys() {
		if k.Id == 50 {
			lists = append(lists, append([]api.Key{k}, keys(60, 61)...))
			lists = append(lists, append(keys(40, 41), k))
			lists = append(lists, append(append(keys(40), k), keys(60)...))
		}
	}
	return lists
}

func TestIsOfRings(t *testing.T) {
	lists := [][]api.Key{nil, {}, keys(0), keys(99), keys(0, 99), keys(0, 1, 2, 3), keys(3, 7, 50, 98, 99), whole()}
	for _, k := range rightEdges() {
		lists = append(lists, []api.Key{k})
	}
	for _, l := range lists {
		if !Is(l) {
			t.Errorf("P5.1: Is(%v) = false", l)
		}
	}
	// Days and secrets may be the same, or fall: Ids alone rise.
	if l := []api.Key{key(1, 50, 60), {Id: 2, Secret: key(1, 50, 60).Secret, From: 50, To: 60}, key(3, 0, 1)}; !Is(l) {
		t.Errorf("P5.1: Is(%v) = false", l)
	}
}

func TestIsOfOtherLists(t *testing.T) {
	for _, l := range noRings() {
		if Is(l) {
			t.Errorf("P5.1: Is(%v) = true", l)
		}
	}
}

func TestFind(t *testing.T) {
	for _, l := range [][]api.Key{nil, {}, keys(0), keys(7), keys(99), keys(0, 99), keys(3, 7, 50, 98), whole()} {
		for _, id := range append([]int{-1, -50, 100, 101, math.MinInt, math.MaxInt}, rand.Perm(100)...) {
			at := slices.IndexFunc(l, func(k api.Key) bool { return k.Id == id })
			got, code := Find(l, id)
			if at < 0 && (code != api.ErrKey || !none(got)) {
				t.Errorf("P5.1: Find(%v, %d) = %v, %d, want %d", l, id, got, code, api.ErrKey)
			}
			if at >= 0 && (code != api.OK || !sameKey(got, l[at])) {
				t.Errorf("P5.1: Find(%v, %d) = %v, %d, want %v", l, id, got, code, l[at])
			}
		}
	}
}

func TestOn(t *testing.T) {
	l := []api.Key{
		key(2, 0, 99999),
		key(5, 10, 20),
		key(7, 15, 15),
		key(8, 30, 40),
		key(20, 5, 30),
		key(90, 99999, 99999),
	}
	for _, c := range []struct{ day, id int }{
		{0, 2}, {4, 2}, {5, 20}, {9, 20}, {10, 20}, {15, 20}, {20, 20}, {30, 20}, {31, 8}, {40, 8}, {41, 2}, {99998, 2}, {99999, 90},
	} {
		if got, code := On(l, c.day); code != api.OK || got.Id != c.id {
			t.Errorf("P5.2: On(%v, %d) = %v, %d, want the key %d", l, c.day, got, code, c.id)
		}
	}
	some := []api.Key{key(1, 10, 20), key(3, 12, 14), key(4, 13, 13), key(6, 30, 30)}
	for _, c := range []struct{ day, id int }{
		{10, 1}, {11, 1}, {12, 3}, {13, 4}, {14, 3}, {15, 1}, {20, 1}, {30, 6},
	} {
		if got, code := On(some, c.day); code != api.OK || got.Id != c.id {
			t.Errorf("P5.2: On(%v, %d) = %v, %d, want the key %d", some, c.day, got, code, c.id)
		}
	}
	for _, day := range []int{9, 21, 29, 31, 0, -1, 99999, 100000, math.MinInt, math.MaxInt} {
		if got, code := On(some, day); code != api.ErrNone || !none(got) {
			t.Errorf("P5.2: On(%v, %d) = %v, %d, want %d", some, day, got, code, api.ErrNone)
		}
	}
	for _, day := range []int{-1, 100000, math.MinInt, math.MaxInt} {
		if got, code := On(l, day); code != api.ErrNone || !none(got) {
			t.Errorf("P5.2: On(%v, %d) = %v, %d, want %d", l, day, got, code, api.ErrNone)
		}
	}
	for _, empty := range [][]api.Key{nil, {}} {
		if got, code := On(empty, 5); code != api.ErrNone || !none(got) {
			t.Errorf("P5.2: On(%v, 5) = %v, %d, want %d", empty, got, code, api.ErrNone)
		}
	}
}

func TestAdd(t *testing.T) {
	for _, c := range []struct{ have, want []int }{
		{nil, []int{42}},
		{[]int{0}, []int{0, 42}},
		{[]int{41}, []int{41, 42}},
		{[]int{43}, []int{42, 43}},
		{[]int{99}, []int{42, 99}},
		{[]int{41, 43}, []int{41, 42, 43}},
		{[]int{0, 1, 2, 99}, []int{0, 1, 2, 42, 99}},
		{[]int{43, 44, 45}, []int{42, 43, 44, 45}},
		{[]int{39, 40, 41}, []int{39, 40, 41, 42}},
	} {
		got, code := Add(keys(c.have...), key(42, 420, 440))
		if code != api.OK || !same(got, keys(c.want...)) {
			t.Errorf("P5.2: Add of 42 to %v = %v, %d", c.have, got, code)
		}
	}
	for _, k := range rightEdges() {
		for _, empty := range [][]api.Key{nil, {}} {
			if got, code := Add(empty, k); code != api.OK || !same(got, []api.Key{k}) {
				t.Errorf("P5.2: Add(%v, %v) = %v, %d", empty, k, got, code)
			}
		}
	}
}

// TestAddOfAnIdThatIsThere: whatever else is another, the Id alone counts.
func TestAddOfAnIdThatIsThere(t *testing.T) {
	for _, l := range [][]api.Key{keys(0), keys(0, 1, 2), keys(3, 50, 99), whole()} {
		for _, k := range l {
			other := api.Key{Id: k.Id, Secret: []byte{200}, From: 99, To: 100}
			for _, k := range []api.Key{k, other} {
				if got, code := Add(l, k); got != nil || code != api.ErrKey {
					t.Errorf("P5.2: Add(%v, %v) = %v, %d, want %d", l, k, got, code, api.ErrKey)
				}
			}
		}
	}
}

func TestAddOfWrongKeys(t *testing.T) {
	// In keys(50) there is the Id of most wrong keys: what is asked first is whether they are right.
	for _, l := range [][]api.Key{nil, keys(0, 99), keys(50), whole()} {
		for _, k := range wrongKeys() {
			if got, code := Add(l, k); got != nil || code != api.ErrArg {
				t.Errorf("P5.2: Add(%v, %v) = %v, %d, want %d", l, k, got, code, api.ErrArg)
			}
		}
	}
}

// TestOfNoRings: that l is no ring is told ahead of all else, also where what is sought is there, or is not.
func TestOfNoRings(t *testing.T) {
	for _, l := range noRings() {
		for _, n := range []int{-1, 0, 5, 50, 99, 100, 100000, math.MinInt, math.MaxInt} {
			if got, code := Find(l, n); code != api.ErrArg || !none(got) {
				t.Errorf("P5.1: Find(%v, %d) = %v, %d, want %d", l, n, got, code, api.ErrArg)
			}
			if got, code := On(l, n); code != api.ErrArg || !none(got) {
				t.Errorf("P5.2: On(%v, %d) = %v, %d, want %d", l, n, got, code, api.ErrArg)
			}
		}
		for _, k := range append(wrongKeys(), key(77, 0, 5), l[0], l[len(l)-1]) {
			if got, code := Add(l, k); got != nil || code != api.ErrArg {
				t.Errorf("P5.2: Add(%v, %v) = %v, %d, want %d", l, k, got, code, api.ErrArg)
			}
		}
	}
}

// model is what a ring is to be: keys by their Ids.
type model map[int]api.Key

func (m model) on(day int) (api.Key, bool) {
	for id := 99; id >= 0; id-- {
		if k, ok := m[id]; ok && k.From <= day && day <= k.To {
			return k, true
		}
	}
	return api.Key{}, false
}

func (m model) check(t *testing.T, l []api.Key) {
	t.Helper()
	if !Is(l) || len(l) != len(m) {
		t.Fatalf("P5.3: %v is no ring of %d keys", l, len(m))
	}
	for id := -1; id <= 100; id++ {
		want, ok := m[id]
		got, code := Find(l, id)
		if ok && (code != api.OK || !sameKey(got, want)) || !ok && (code != api.ErrKey || !none(got)) {
			t.Fatalf("P5.3: Find(%v, %d) = %v, %d, want %v, %v", l, id, got, code, want, ok)
		}
	}
	for day := -1; day <= 31; day++ {
		want, ok := m.on(day)
		got, code := On(l, day)
		if ok && (code != api.OK || !sameKey(got, want)) || !ok && (code != api.ErrNone || !none(got)) {
			t.Fatalf("P5.3: On(%v, %d) = %v, %d, want %v, %v", l, day, got, code, want, ok)
		}
		if !ok {
			continue
		}
		if found, code := Find(l, got.Id); code != api.OK || !sameKey(found, got) {
			t.Fatalf("P5.3: On(%v, %d) tells %v, but Find %v, %d", l, day, got, found, code)
		}
	}
}

// TestRingsThatGrow adds keys in many orders, some of them twice, and holds each ring against a model.
func TestRingsThatGrow(t *testing.T) {
	random := rand.New(rand.NewSource(5))
	for range 40 {
		l, m := []api.Key(nil), model{}
		for range 1 + random.Intn(30) {
			from := random.Intn(30)
			k := key(random.Intn(40), from, from+random.Intn(30-from))
			_, there := m[k.Id]
			next, code := Add(l, k)
			if there != (code == api.ErrKey) || !there && code != api.OK {
				t.Fatalf("P5.2: Add(%v, %v) = %v, %d", l, k, next, code)
			}
			if there {
				continue
			}
			l, m[k.Id] = next, k
			m.check(t, l)
		}
	}
}

func TestTheWholeRing(t *testing.T) {
	want := whole()
	for seed := range int64(5) {
		l := []api.Key(nil)
		for _, id := range rand.New(rand.NewSource(seed)).Perm(100) {
			next, code := Add(l, want[id])
			if code != api.OK {
				t.Fatalf("P5.2: Add(%v, %v) = %d", l, want[id], code)
			}
			l = next
		}
		if !same(l, want) {
			t.Errorf("P5.2: all keys, added, are %v", l)
		}
	}
}

// TestArgumentsStay hands in lists with room behind them, and secrets likewise: what lies in that room stays too.
func TestArgumentsStay(t *testing.T) {
	all := keys(1, 3, 5, 7, 9, 11)
	kept := copied(all)
	for n := range len(all) + 1 {
		for id := range 13 {
			k := key(id, 4, 5)
			keptKey := copied([]api.Key{k})[0]
			l := all[:n]
			first, firstCode := Add(l, k)
			keptFirst := copied(first)
			Find(l, id)
			On(l, id)
			Is(l)
			again, againCode := Add(l, k)
			if !same(all, kept) || !sameKey(k, keptKey) {
				t.Fatalf("R2: %v was handed in, and is now %v; %v, and is now %v", kept, all, keptKey, k)
			}
			if firstCode != againCode || !same(first, again) || !same(first, keptFirst) {
				t.Errorf("R2: Add(%v, %v) = %v, and the second time %v", l, k, keptFirst, again)
			}
		}
	}
}

// TestRingsOfOneRing: two rings that grew from one do not touch each other.
func TestRingsOfOneRing(t *testing.T) {
	base := []api.Key(nil)
	for _, k := range keys(10, 20, 30, 40, 50) {
		base, _ = Add(base, k)
		kept := copied(base)
		a, _ := Add(base, key(60, 0, 1))
		b, _ := Add(base, key(70, 2, 3))
		c, _ := Add(base, key(5, 4, 5))
		if a[len(a)-1].Id != 60 || b[len(b)-1].Id != 70 || c[0].Id != 5 || !same(a[:len(base)], kept) || !same(b[:len(base)], kept) || !same(c[1:], kept) || !same(base, kept) {
			t.Errorf("R2: of %v came %v, %v and %v", kept, a, b, c)
		}
	}
}

// TestAnswersShareNothing changes each answer, and then what was handed in: the other side stays.
func TestAnswersShareNothing(t *testing.T) {
	spoil := func(k *api.Key) {
		for i := range k.Secret {
			k.Secret[i] ^= 255
		}
		k.Id, k.From, k.To = -7, -7, -7
	}
	l, k := keys(1, 3), key(2, 4, 5)
	kept, keptKey := copied(l), copied([]api.Key{k})[0]
	grown, _ := Add(l, k)
	for i := range grown {
		spoil(&grown[i])
	}
	found, _ := Find(l, 3)
	spoil(&found)
	used, _ := On(l, 15)
	spoil(&used)
	if !same(l, kept) || !sameKey(k, keptKey) {
		t.Errorf("7: an answer was changed, and %v, %v are now %v, %v", kept, keptKey, l, k)
	}
	grown, _ = Add(l, k)
	found, _ = Find(l, 3)
	used, _ = On(l, 15)
	keptGrown, keptFound := copied(grown), copied([]api.Key{found, used})
	spoil(&l[0])
	spoil(&l[1])
	spoil(&k)
	if !same(grown, keptGrown) || !same([]api.Key{found, used}, keptFound) {
		t.Errorf("7: what was handed in was changed, and %v, %v, %v are the answers now", grown, found, used)
	}
}
