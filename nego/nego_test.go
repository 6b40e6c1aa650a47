package nego

import (
	"bytes"
	"math"
	"reflect"
	"slices"
	"testing"

	"gateline/api"
	"gateline/barcode"
	"gateline/fits"
)

// farOff is numbers that are no version, at the ends of int and about them, and such as have a version as their low bytes.
func farOff() []int {
	return []int{math.MinInt, math.MinInt + 1, math.MinInt32, -1000000000, -257, -256, -3, -2, -1, 0, 4, 5, 255, 256, 257, 258, 259, 1<<32 + 1, 1<<32 + 2, 1<<32 + 3, 1 << 62, math.MaxInt - 1, math.MaxInt}
}

// allVersions is all lists that are versions, written out.
func allVersions() [][]int {
	return [][]int{{}, {1}, {2}, {3}, {1, 2}, {1, 3}, {2, 3}, {1, 2, 3}}
}

// noVersions is lists that are no versions, though the numbers of many are 1 to 3.
func noVersions() [][]int {
	l := [][]int{
		{1, 1}, {2, 2}, {3, 3}, {2, 1}, {3, 1}, {3, 2}, {3, 2, 1}, {1, 3, 2}, {2, 1, 3}, {2, 3, 1}, {3, 1, 2},
		{1, 1, 2}, {1, 2, 2}, {1, 2, 1}, {1, 2, 3, 3}, {1, 2, 3, 1}, {1, 1, 2, 3}, {1, 2, 3, 4}, {0, 1, 2, 3}, {0, 1, 2, 3, 4}, {1, 2, 4}, {0, 3}, {3, 4},
		make([]int, 1000), slices.Repeat([]int{3}, 1000), slices.Repeat([]int{1, 2, 3}, 1000),
	}
	for _, n := range farOff() {
		l = append(l, []int{n}, []int{n, n})
		for _, v := range allVersions() {
			for at := range len(v) + 1 {
				l = append(l, slices.Insert(slices.Clone(v), at, n))
			}
			for at := range v {
				other := slices.Clone(v)
				other[at] = n
				l = append(l, other)
			}
		}
	}
	return l
}

// shortLists is all lists of up to 4 numbers that are -1 to 5.
func shortLists() [][]int {
	all := [][]int{{}}
	last := all
	for range 4 {
		var longer [][]int
		for _, l := range last {
			for n := -1; n <= 5; n++ {
				longer = append(longer, append(slices.Clone(l), n))
			}
		}
		all, last = append(all, longer...), longer
	}
	return all
}

// listed is whether l is one of allVersions.
func listed(l []int) bool {
	return slices.ContainsFunc(allVersions(), func(v []int) bool { return slices.Equal(v, l) })
}

// bothOf is those of 1 to 3 that a and b have; the greatest of them is 0, if there is none.
func bothOf(a, b []int) (both []int, greatest int) {
	in := map[int]int{}
	for _, n := range a {
		in[n] |= 1
	}
	for _, n := range b {
		in[n] |= 2
	}
	for n := 1; n <= 3; n++ {
		if in[n] == 3 {
			both, greatest = append(both, n), n
		}
	}
	return both, greatest
}

func single() api.Ticket {
	return api.Ticket{Serial: 1, Kind: 1, From: 10, To: 20, Class: 2, Days: 1, Uses: 1}
}

// ofEachKind is a right ticket of each kind, without a card and without a seat.
func ofEachKind() []api.Ticket {
	return []api.Ticket{
		single(),
		{Serial: 1 << 40, Kind: 2, From: 39, To: 0, Class: 1, Start: 99999, Days: 1, Uses: 2, Epoch: 9},
		{Serial: 77, Kind: 3, From: 2, To: 4, Class: 2, Start: 500, Days: 30, Epoch: 3},
		{Serial: 10000000, Kind: 4, From: 30, To: 15, Class: 1, Start: 99001, Days: 999, Uses: 20, Epoch: 1},
	}
}

// asking is t with that card and that seat.
func asking(t api.Ticket, card, seat int) api.Ticket {
	t.Card, t.Seat = card, seat
	return t
}

// wrongTickets is tickets that are not right, of each field one that is out of its bounds.
func wrongTickets() []api.Ticket {
	l := []api.Ticket{{}}
	for _, x := range ofEachKind() {
		for _, change := range []func(*api.Ticket){
			func(t *api.Ticket) { t.Serial = 0 },
			func(t *api.Ticket) { t.Serial = 1<<40 + 1 },
			func(t *api.Ticket) { t.Kind = 0 },
			func(t *api.Ticket) { t.Kind = 5 },
			func(t *api.Ticket) { t.From = 40 },
			func(t *api.Ticket) { t.To = -1 },
			func(t *api.Ticket) { t.Class = 3 },
			func(t *api.Ticket) { t.Card = 4 },
			func(t *api.Ticket) { t.Card = -1 },
			func(t *api.Ticket) { t.Seat = 1000 },
			func(t *api.Ticket) { t.Seat = -1 },
			func(t *api.Ticket) { t.Start = 100000 },
			func(t *api.Ticket) { t.Days = 0 },
			func(t *api.Ticket) { t.Uses = 21 },
			func(t *api.Ticket) { t.Epoch = 10 },
			func(t *api.Ticket) { t.Serial = math.MinInt },
			func(t *api.Ticket) { t.Days = math.MaxInt },
		} {
			y := x
			change(&y)
			l = append(l, y)
		}
	}
	return l
}

// wantCommon holds Common against what is wanted.
func wantCommon(t *testing.T, a, b, want []int, code api.Errno) {
	t.Helper()
	got, e := Common(a, b)
	if e != code || !slices.Equal(got, want) || code != api.OK && got != nil {
		t.Errorf("P22.1: Common(%v, %v) = %v, %d, want %v, %d", a, b, got, e, want, code)
	}
}

// wantPick holds Pick against what is wanted.
func wantPick(t *testing.T, a, b []int, want int, code api.Errno) {
	t.Helper()
	if got, e := Pick(a, b); got != want || e != code {
		t.Errorf("P22.2: Pick(%v, %v) = %d, %d, want %d, %d", a, b, got, e, want, code)
	}
}

// wantFor holds For against what is wanted.
func wantFor(t *testing.T, x api.Ticket, a, b []int, want int, code api.Errno) {
	t.Helper()
	if got, e := For(x, a, b); got != want || e != code {
		t.Errorf("P22.2: For(%+v, %v, %v) = %d, %d, want %d, %d", x, a, b, got, e, want, code)
	}
}

func TestIs(t *testing.T) {
	for _, l := range append(allVersions(), nil) {
		if !Is(l) {
			t.Errorf("P22.1: Is(%v) is false", l)
		}
	}
	for _, l := range noVersions() {
		if Is(l) {
			t.Errorf("P22.1: Is(%v) is true", l)
		}
	}
	for _, l := range shortLists() {
		if Is(l) != listed(l) {
			t.Errorf("P22.1: Is(%v) = %t", l, Is(l))
		}
	}
}

// TestExamples has pairs of lists with what they come to, written out; each stands for both orders.
func TestExamples(t *testing.T) {
	for _, x := range []struct {
		a, b, both []int
		pick       int
		code       api.Errno
	}{
		{nil, nil, nil, 0, api.ErrVersion},
		{nil, []int{1, 2, 3}, nil, 0, api.ErrVersion},
		{[]int{1}, []int{2}, nil, 0, api.ErrVersion},
		{[]int{1}, []int{2, 3}, nil, 0, api.ErrVersion},
		{[]int{1, 3}, []int{2}, nil, 0, api.ErrVersion},
		{[]int{1, 2}, []int{3}, nil, 0, api.ErrVersion},
		{[]int{1}, []int{1}, []int{1}, 1, api.OK},
		{[]int{1}, []int{1, 2, 3}, []int{1}, 1, api.OK},
		{[]int{1, 2}, []int{1, 3}, []int{1}, 1, api.OK},
		{[]int{1, 2}, []int{2, 3}, []int{2}, 2, api.OK},
		{[]int{1, 2}, []int{1, 2}, []int{1, 2}, 2, api.OK},
		{[]int{1, 2}, []int{1, 2, 3}, []int{1, 2}, 2, api.OK},
		{[]int{3}, []int{1, 2, 3}, []int{3}, 3, api.OK},
		{[]int{1, 3}, []int{2, 3}, []int{3}, 3, api.OK},
		{[]int{1, 3}, []int{1, 2, 3}, []int{1, 3}, 3, api.OK},
		{[]int{2, 3}, []int{1, 2, 3}, []int{2, 3}, 3, api.OK},
		{[]int{1, 2, 3}, []int{1, 2, 3}, []int{1, 2, 3}, 3, api.OK},
	} {
		wantCommon(t, x.a, x.b, x.both, api.OK)
		wantCommon(t, x.b, x.a, x.both, api.OK)
		wantPick(t, x.a, x.b, x.pick, x.code)
		wantPick(t, x.b, x.a, x.pick, x.code)
		wantFor(t, single(), x.a, x.b, x.pick, x.code)
		wantFor(t, single(), x.b, x.a, x.pick, x.code)
	}
}

// TestPairs has all pairs of versions.
func TestPairs(t *testing.T) {
	for _, a := range allVersions() {
		for _, b := range allVersions() {
			both, greatest := bothOf(a, b)
			code := api.OK
			if greatest == 0 {
				code = api.ErrVersion
			}
			wantCommon(t, a, b, both, api.OK)
			wantPick(t, a, b, greatest, code)
		}
	}
}

// TestNoVersions has lists that are no versions on each side, and on both; what they have in common tells nothing then.
func TestNoVersions(t *testing.T) {
	for _, l := range noVersions() {
		for _, v := range append(allVersions(), l) {
			wantCommon(t, l, v, nil, api.ErrArg)
			wantCommon(t, v, l, nil, api.ErrArg)
			wantPick(t, l, v, 0, api.ErrArg)
			wantPick(t, v, l, 0, api.ErrArg)
			wantFor(t, single(), l, v, 0, api.ErrArg)
			wantFor(t, single(), v, l, 0, api.ErrArg)
			// Nor does what a ticket has no room on.
			wantFor(t, asking(single(), 0, 31), l, v, 0, api.ErrArg)
			wantFor(t, asking(single(), 0, 31), v, l, 0, api.ErrArg)
		}
	}
}

// TestShortLists has all pairs of short lists of which one is versions.
func TestShortLists(t *testing.T) {
	for _, l := range shortLists() {
		for _, v := range allVersions() {
			both, greatest := bothOf(l, v)
			switch {
			case !listed(l):
				wantCommon(t, l, v, nil, api.ErrArg)
				wantPick(t, v, l, 0, api.ErrArg)
			case greatest == 0:
				wantCommon(t, l, v, nil, api.OK)
				wantPick(t, v, l, 0, api.ErrVersion)
			default:
				wantCommon(t, l, v, both, api.OK)
				wantPick(t, v, l, greatest, api.OK)
			}
		}
	}
}

// TestFor has tickets with and without a card and a seat, between all pairs of versions.
func TestFor(t *testing.T) {
	for _, x := range ofEachKind() {
		for _, ask := range []struct{ card, seat, least int }{{0, 0, 1}, {1, 0, 2}, {3, 0, 2}, {0, 1, 3}, {0, 999, 3}, {1, 1, 3}, {3, 999, 3}} {
			for _, a := range allVersions() {
				for _, b := range allVersions() {
					_, greatest := bothOf(a, b)
					y := asking(x, ask.card, ask.seat)
					switch {
					case greatest == 0:
						wantFor(t, y, a, b, 0, api.ErrVersion)
					case greatest < ask.least:
						wantFor(t, y, a, b, 0, api.ErrFit)
					default:
						wantFor(t, y, a, b, greatest, api.OK)
					}
				}
			}
		}
	}
}

// TestForWrittenOut has each error of For, and each version that it tells.
func TestForWrittenOut(t *testing.T) {
	card, seat := asking(single(), 2, 0), asking(single(), 0, 31)
	wantFor(t, single(), []int{1}, []int{1, 2, 3}, 1, api.OK)
	wantFor(t, single(), []int{1, 2}, []int{1, 2, 3}, 2, api.OK)
	wantFor(t, single(), []int{1, 2, 3}, []int{1, 2, 3}, 3, api.OK)
	wantFor(t, card, []int{1}, []int{1, 2, 3}, 0, api.ErrFit)
	wantFor(t, card, []int{1, 2}, []int{1, 2, 3}, 2, api.OK)
	wantFor(t, card, []int{1, 3}, []int{1, 2, 3}, 3, api.OK)
	wantFor(t, seat, []int{1}, []int{1, 2, 3}, 0, api.ErrFit)
	wantFor(t, seat, []int{1, 2}, []int{1, 2, 3}, 0, api.ErrFit)
	wantFor(t, seat, []int{1, 2, 3}, []int{3}, 3, api.OK)
	wantFor(t, seat, []int{1, 2}, []int{3}, 0, api.ErrVersion)
	wantFor(t, seat, []int{1, 2}, []int{4}, 0, api.ErrArg)
}

// TestWrongTickets has tickets that are not right, which go ahead of all that lists are wrong in.
func TestWrongTickets(t *testing.T) {
	for _, x := range wrongTickets() {
		for _, a := range append(allVersions(), []int{2, 1}, []int{0}, []int{4}) {
			wantFor(t, x, a, []int{1, 2, 3}, 0, api.ErrArg)
			wantFor(t, x, []int{3}, a, 0, api.ErrArg)
			wantFor(t, x, nil, a, 0, api.ErrArg)
		}
	}
}

// TestWhoAsks tries P22.3: it plays no part which of the lists stands first.
func TestWhoAsks(t *testing.T) {
	lists := append(append(allVersions(), noVersions()...), nil)
	tickets := append(ofEachKind(), asking(single(), 1, 0), asking(single(), 0, 1), api.Ticket{})
	for _, a := range allVersions() {
		for _, b := range lists {
			one, e := Common(a, b)
			other, f := Common(b, a)
			if e != f || !slices.Equal(one, other) {
				t.Errorf("P22.3: Common of %v and %v = %v, %d, and %v, %d", a, b, one, e, other, f)
			}
			n, e := Pick(a, b)
			m, f := Pick(b, a)
			if e != f || n != m {
				t.Errorf("P22.3: Pick of %v and %v = %d, %d, and %d, %d", a, b, n, e, m, f)
			}
			for _, x := range tickets {
				n, e := For(x, a, b)
				m, f := For(x, b, a)
				if e != f || n != m {
					t.Errorf("P22.3: For of %+v, %v and %v = %d, %d, and %d, %d", x, a, b, n, e, m, f)
				}
			}
		}
	}
}

// knowsAll is whether l has all that less has.
func knowsAll(l, less []int) bool {
	return !slices.ContainsFunc(less, func(n int) bool { return !slices.Contains(l, n) })
}

// TestKnowsMore tries P22.3: who knows more versions gets no lesser one, and none that failed to be told before.
func TestKnowsMore(t *testing.T) {
	tickets := append(ofEachKind(), asking(single(), 1, 0), asking(single(), 0, 1))
	pairs := 0
	for _, a := range allVersions() {
		for _, more := range allVersions() {
			if !knowsAll(more, a) {
				continue
			}
			for _, b := range allVersions() {
				pairs++
				n, e := Pick(a, b)
				if m, f := Pick(more, b); m < n || e == api.OK && f != api.OK {
					t.Errorf("P22.3: Pick(%v, %v) = %d, %d, but Pick(%v, %v) = %d, %d", a, b, n, e, more, b, m, f)
				}
				for _, x := range tickets {
					n, e := For(x, a, b)
					if m, f := For(x, more, b); m < n || e == api.OK && f != api.OK {
						t.Errorf("P22.3: For(%+v, %v, %v) = %d, %d, but with %v %d, %d", x, a, b, n, e, more, m, f)
					}
				}
			}
		}
	}
	if pairs != 27*8 {
		t.Errorf("P22.3: %d pairs were tried", pairs)
	}
}

// TestEncoded holds that what For tells is a version of which chapter 19 makes a barcode, and that of what it refuses by ErrFit chapter 19 makes none by the version of Pick.
func TestEncoded(t *testing.T) {
	ring := []api.Key{{Id: 7, Secret: []byte("Jefe"), From: 0, To: 99999}}
	for _, x := range ofEachKind() {
		for _, y := range []api.Ticket{x, asking(x, 2, 0), asking(x, 0, 9), asking(x, 1, 999)} {
			for _, a := range allVersions() {
				n, e := For(y, a, []int{1, 2, 3})
				if e == api.ErrVersion {
					continue
				}
				pick, _ := Pick(a, []int{1, 2, 3})
				s, f := barcode.Encode(ring, api.Read{T: y, Key: 7, Version: pick})
				if f != e || fits.Barcode(y, pick) != (e == api.OK) {
					t.Errorf("P22.2: For(%+v, %v, all) = %d, %d, but a barcode of the version %d tells %d", y, a, n, e, pick, f)
				}
				if v, _ := barcode.Version(s); v != n {
					t.Errorf("P22.2: For(%+v, %v, all) = %d, but the barcode's version is %d", y, a, n, v)
				}
			}
		}
	}
}

// TestMemory holds that lists that are handed in stay as they are, and that what came out shares nothing with them (R2).
func TestMemory(t *testing.T) {
	whole := func() []int { return []int{1, 2, 3, 9, 9, 9} }
	for _, n := range []int{0, 1, 2, 3} {
		a, b := whole(), whole()
		both, _ := Common(a[:n], b[:3])
		again, _ := Common(b[:3], a[:n])
		for i := range both {
			both[i] = 70
		}
		if !slices.Equal(again, []int{1, 2, 3}[:n]) {
			t.Errorf("R2: what came out became %v", again)
		}
		both, again = append(both, 71, 72, 73), append(again, 74, 75, 76)
		if !reflect.DeepEqual(a, whole()) || !reflect.DeepEqual(b, whole()) {
			t.Errorf("R2: what was handed in became %v and %v, by %v and %v", a, b, both, again)
		}
		Pick(a[:n], b[:3])
		For(single(), b[:3], a[:n])
		Common(a, b)
		if !reflect.DeepEqual(a, whole()) || !reflect.DeepEqual(b, whole()) {
			t.Errorf("R2: what was handed in became %v and %v", a, b)
		}
	}
	// One list on both sides, too.
	l := whole()[:3]
	both, _ := Common(l, l)
	both[0] = 70
	if !slices.Equal(l, []int{1, 2, 3}) {
		t.Errorf("R2: what was handed in became %v", l)
	}
}

// TestAnyNumbers has lists of numbers without a pattern, near versions and far off them.
func TestAnyNumbers(t *testing.T) {
	x := uint64(1)
	next := func(n int) int {
		x ^= x << 13
		x ^= x >> 7
		x ^= x << 17
		return int(x>>1) % n
	}
	some := func() []int {
		l := []int{}
		for range next(4) {
			l = append(l, 1+next(3))
		}
		if next(2) == 0 {
			slices.Sort(l)
		}
		if next(8) == 0 {
			l = append(l, farOff()[next(len(farOff()))])
		}
		return l
	}
	counts := map[api.Errno]int{}
	for range 20000 {
		a, b := some(), some()
		both, greatest := bothOf(a, b)
		code, picked := api.OK, api.OK
		switch {
		case !listed(a) || !listed(b):
			code, picked, both, greatest = api.ErrArg, api.ErrArg, nil, 0
		case greatest == 0:
			picked = api.ErrVersion
		}
		wantCommon(t, a, b, both, code)
		wantPick(t, a, b, greatest, picked)
		wantFor(t, single(), a, b, greatest, picked)
		counts[picked]++
	}
	if counts[api.OK] < 500 || counts[api.ErrArg] < 500 || counts[api.ErrVersion] < 500 {
		t.Errorf("of those lists too few are of one sort: %v", counts)
	}
}

// TestCut has lists of what is no number: what cuts versions cuts any list.
func TestCut(t *testing.T) {
	if got := cut(list[string]{"a", "c", "d"}, list[string]{"b", "c", "d", "e"}); !slices.Equal(got, []string{"c", "d"}) {
		t.Errorf("what both have is %v", got)
	}
	if got := cut(list[byte]("13579"), list[byte]("159")); !bytes.Equal(got, []byte("159")) {
		t.Errorf("what both have is %v", got)
	}
	if !(list[string]{"a", "c"}).risesWithin("a", "c") || (list[string]{"c", "a"}).risesWithin("a", "c") || (list[string]{"a", "d"}).risesWithin("a", "c") {
		t.Error("texts rise otherwise")
	}
}
