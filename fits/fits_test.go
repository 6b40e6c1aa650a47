package fits

import (
	"bytes"
	"math"
	"testing"

	"gateline/api"
	"gateline/barcode"
	"gateline/stripe"
)

// farOff is numbers that are none of anything, at the ends of int and about them.
func farOff() []int {
	return []int{math.MinInt, math.MinInt + 1, math.MinInt32, -1000000000, -2, -1, 1<<40 + 1, 1 << 41, 1 << 62, math.MaxInt - 1, math.MaxInt}
}

func single() api.Ticket {
	return api.Ticket{Serial: 1, Kind: 1, From: 10, To: 20, Class: 2, Days: 1, Uses: 1}
}

func back() api.Ticket {
	return api.Ticket{Serial: 9999999, Kind: 2, From: 39, To: 0, Class: 1, Start: 99999, Days: 1, Uses: 2, Epoch: 9}
}

func season() api.Ticket {
	return api.Ticket{Serial: 77, Kind: 3, From: 2, To: 4, Class: 2, Start: 500, Days: 30, Epoch: 3}
}

func carnet() api.Ticket {
	return api.Ticket{Serial: 1234567, Kind: 4, From: 30, To: 15, Class: 1, Start: 99001, Days: 999, Uses: 20, Epoch: 1}
}

// ofEachKind is a right ticket of each kind, which asks for nothing that a medium may lack.
func ofEachKind() []api.Ticket {
	return []api.Ticket{single(), back(), season(), carnet()}
}

// with is t with one field that is another.
func with(t api.Ticket, name string, n int) api.Ticket {
	*map[string]*int{
		"Serial": &t.Serial, "Kind": &t.Kind, "From": &t.From, "To": &t.To, "Class": &t.Class, "Card": &t.Card,
		"Seat": &t.Seat, "Start": &t.Start, "Days": &t.Days, "Uses": &t.Uses, "Epoch": &t.Epoch,
	}[name] = n
	return t
}

// noise is numbers without a pattern, always the same ones of one seed.
func noise(seed uint64) func(n int) int {
	x := seed*0x9e3779b97f4a7c15 + 1
	return func(n int) int {
		x ^= x << 13
		x ^= x >> 7
		x ^= x << 17
		return int(x>>1) % n
	}
}

// noiseTicket is some right ticket: of half of them the serial has room on a stripe, and many have no card or no seat.
func noiseTicket(next func(n int) int) api.Ticket {
	t := api.Ticket{Serial: 1 + next([]int{9999999, 1 << 40}[next(2)]), Kind: 1 + next(4), Class: 1 + next(2), Card: next(4) * next(2), Seat: next(1000) * next(2), Start: next(100000), Epoch: next(10)}
	t.Days = 1 + next(min(999, 100000-t.Start))
	t.From = next(40)
	t.To = (t.From + 1 + next(39)) % 40
	switch t.Kind {
	case 1, 2:
		t.Uses = t.Kind
	case 3:
		t.From = 1 + next(6)
		t.To = t.From + next(7-t.From)
	case 4:
		t.Uses = 2 + next(19)
	}
	return t
}

// wrongs is tickets that are not right; but for that, each has room on all media.
func wrongs() []api.Ticket {
	l := []api.Ticket{{}, {Kind: 1}, {Serial: -1, Kind: -1, Seat: -1, Card: -1}}
	for _, t := range ofEachKind() {
		for _, name := range []string{"Serial", "Kind", "From", "To", "Class", "Card", "Seat", "Start", "Days", "Uses", "Epoch"} {
			for _, n := range farOff() {
				l = append(l, with(t, name, n))
			}
		}
		for _, x := range []struct {
			name string
			n    int
		}{
			{"Serial", 0}, {"Kind", 0}, {"Kind", 5}, {"From", t.To + 40}, {"To", 40}, {"Class", 0}, {"Class", 3}, {"Card", 4}, {"Seat", 1000},
			{"Start", 100000}, {"Days", 0}, {"Days", 1000}, {"Uses", 21}, {"Epoch", 10},
		} {
			l = append(l, with(t, x.name, x.n))
		}
		if t.Kind != api.Season {
			l = append(l, with(t, "From", t.To), with(t, "Uses", 0), with(t, "Kind", api.Season))
		}
	}
	return append(l, with(season(), "From", 5), with(season(), "From", 0), with(season(), "To", 7), with(season(), "Uses", 1), with(single(), "Uses", 2), with(back(), "Uses", 1), with(carnet(), "Uses", 1), with(back(), "Days", 2))
}

// wantFits holds each call of P20.1 of t against what is wanted: room on a stripe, and the least version, or 0 of a ticket that is not right.
func wantFits(t *testing.T, x api.Ticket, onStripe bool, least int) {
	t.Helper()
	if got := Stripe(x); got != onStripe {
		t.Errorf("P20.1: Stripe(%+v) = %t, want %t", x, got, onStripe)
	}
	code := api.OK
	if least == 0 {
		code = api.ErrArg
	}
	if got, e := Version(x); got != least || e != code {
		t.Errorf("P20.1: Version(%+v) = %d, %d, want %d, %d", x, got, e, least, code)
	}
	for _, version := range append(farOff(), -3, -2, -1, 0, 1, 2, 3, 4, 5, 255, 256, 257, 258, 259) {
		want := least > 0 && version >= least && version <= 3
		if got := Barcode(x, version); got != want {
			t.Errorf("P20.1: Barcode(%+v, %d) = %t, want %t", x, version, got, want)
		}
	}
}

func TestEachKind(t *testing.T) {
	for _, x := range ofEachKind() {
		wantFits(t, x, true, 1)
		wantFits(t, with(x, "Epoch", 9), true, 1)
		wantFits(t, with(x, "Class", 1), true, 1)
		wantFits(t, with(x, "Class", 2), true, 1)
	}
	// Example 7 of the whole: a seat has room on a barcode of version 3 alone, and on no stripe.
	wantFits(t, api.Ticket{Serial: 5, Kind: api.Single, From: 1, To: 2, Class: 1, Seat: 31, Start: 9, Days: 1, Uses: 1}, false, 3)
}

func TestCardsAndSeats(t *testing.T) {
	for _, x := range ofEachKind() {
		for card := range 4 {
			for _, seat := range []int{0, 1, 2, 255, 256, 998, 999} {
				y := with(with(x, "Card", card), "Seat", seat)
				switch {
				case seat != 0:
					wantFits(t, y, false, 3)
				case card != 0:
					wantFits(t, y, true, 2)
				default:
					wantFits(t, y, true, 1)
				}
			}
		}
	}
}

// TestSerials has serials about the greatest one of a stripe; barcodes have room for all.
func TestSerials(t *testing.T) {
	for _, x := range ofEachKind() {
		for _, serial := range []int{1, 2, 9, 10, 999999, 1000000, 9999998, 9999999, 10000000, 10000001, 1<<32 - 1, 1 << 32, 1<<32 + 1, 1<<40 - 1, 1 << 40} {
			y := with(x, "Serial", serial)
			wantFits(t, y, serial <= 9999999, 1)
			wantFits(t, with(y, "Card", 3), serial <= 9999999, 2)
			wantFits(t, with(y, "Seat", 999), false, 3)
		}
	}
}

func TestWrongTickets(t *testing.T) {
	for _, x := range wrongs() {
		wantFits(t, x, false, 0)
		wantFits(t, with(x, "Kind", 0), false, 0)
	}
	// What a ticket asks for tells nothing of one that is not right.
	for _, x := range wrongs() {
		if x.Card >= 0 && x.Card < 4 {
			wantFits(t, with(with(x, "Card", 2), "Days", 0), false, 0)
		}
		wantFits(t, with(with(x, "Seat", 5), "Days", 0), false, 0)
	}
}

// allKeys is a ring of keys of all numbers.
func allKeys() []api.Key {
	l := make([]api.Key, 100)
	for id := range l {
		l[id] = api.Key{Id: id, Secret: bytes.Repeat([]byte{byte(id + 1)}, 1+id%64), From: id, To: 99999 - id}
	}
	return l
}

// encodesStripe holds that chapter 15 encodes a stripe of x, by that key and with that journey, or tells that error.
func encodesStripe(t *testing.T, x api.Ticket, key int, j api.Journey, want api.Errno) {
	t.Helper()
	b, e := stripe.Encode(allKeys(), api.Read{T: x, Key: key, J: j})
	if e != want || (len(b) > 0) != (want == api.OK) {
		t.Errorf("P20.2: a stripe of %+v, the key %d and %+v: %v, %d, want %d", x, key, j, b, e, want)
	}
}

// encodesBarcode holds that chapter 19 encodes a barcode of x, by that key and of that version, or tells that error.
func encodesBarcode(t *testing.T, x api.Ticket, key, version int, want api.Errno) {
	t.Helper()
	s, e := barcode.Encode(allKeys(), api.Read{T: x, Key: key, Version: version})
	if e != want || (len(s) > 0) != (want == api.OK) {
		t.Errorf("P20.2: a barcode of %+v, the key %d and the version %d: %q, %d, want %d", x, key, version, s, e, want)
	}
}

// encodeError is the error of a medium of x on which it has room or not.
func encodeError(right, room bool) api.Errno {
	switch {
	case !right:
		return api.ErrArg
	case !room:
		return api.ErrFit
	}
	return api.OK
}

// wantEncoded tries P20.2 of x by that key, with some journeys that suit it and with all versions.
func wantEncoded(t *testing.T, x api.Ticket, key int) {
	t.Helper()
	_, e := Version(x)
	right := e == api.OK
	for _, left := range []int{0, x.Uses / 2, x.Uses} {
		for _, in := range []int{0, 1, 40} {
			encodesStripe(t, x, key, api.Journey{Left: left, In: in}, encodeError(right, Stripe(x)))
		}
	}
	for _, version := range []int{1, 2, 3} {
		encodesBarcode(t, x, key, version, encodeError(right, Barcode(x, version)))
	}
	for _, version := range []int{math.MinInt, -1, 0, 4, 5, math.MaxInt} {
		if Barcode(x, version) {
			t.Errorf("P20.2: Barcode(%+v, %d) is true", x, version)
		}
		encodesBarcode(t, x, key, version, api.ErrArg)
	}
}

func TestEncoded(t *testing.T) {
	for _, x := range ofEachKind() {
		for _, serial := range []int{1, 9999999, 10000000, 1 << 40} {
			for _, card := range []int{0, 1, 3} {
				for _, seat := range []int{0, 1, 999} {
					wantEncoded(t, with(with(with(x, "Serial", serial), "Card", card), "Seat", seat), 7)
				}
			}
		}
	}
	for _, x := range wrongs() {
		wantEncoded(t, x, 7)
	}
}

// TestEachKeyAndJourney has all keys' numbers, and all journeys that suit tickets, of such as have room and have not.
func TestEachKeyAndJourney(t *testing.T) {
	for _, x := range ofEachKind() {
		for key := range 100 {
			for _, y := range []api.Ticket{x, with(x, "Card", 1), with(x, "Seat", 1), with(x, "Serial", 10000000)} {
				encodesStripe(t, y, key, api.Journey{}, encodeError(true, Stripe(y)))
				for version := 1; version <= 3; version++ {
					encodesBarcode(t, y, key, version, encodeError(true, Barcode(y, version)))
				}
			}
		}
		for left := range x.Uses + 1 {
			for in := range 41 {
				encodesStripe(t, x, 99, api.Journey{Left: left, In: in}, api.OK)
				encodesStripe(t, with(x, "Seat", 1), 99, api.Journey{Left: left, In: in}, api.ErrFit)
			}
		}
	}
}

func TestAnyTickets(t *testing.T) {
	next := noise(1)
	counts := map[bool]int{}
	versions := map[int]int{}
	for range 3000 {
		x := noiseTicket(next)
		least := 1
		if x.Card > 0 {
			least = 2
		}
		if x.Seat > 0 {
			least = 3
		}
		onStripe := x.Serial < 10000000 && x.Seat == 0
		wantFits(t, x, onStripe, least)
		wantEncoded(t, x, next(100))
		counts[onStripe]++
		versions[least]++
	}
	for range 3000 {
		x := api.Ticket{Serial: next(3), Kind: next(6), From: next(42) - 1, To: next(42) - 1, Class: next(4), Card: next(5), Seat: next(3), Start: next(2), Days: next(3), Uses: next(4), Epoch: next(11)}
		wantEncoded(t, x, next(100))
	}
	if counts[true] < 500 || counts[false] < 500 || versions[1] < 200 || versions[2] < 200 || versions[3] < 500 {
		t.Errorf("of those tickets too few are of one sort: %v, %v", counts, versions)
	}
}
