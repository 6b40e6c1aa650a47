package layout

import (
	"bytes"
	"math"
	"slices"
	"strconv"
	"strings"
	"testing"

	"gateline/api"
)

// farOff is numbers that are none of anything, at the ends of int and about them.
func farOff() []int {
	return []int{math.MinInt, math.MinInt + 1, -1 << 32, -100, -2, -1, 1<<40 + 1, 1 << 62, math.MaxInt - 1, math.MaxInt}
}

func single() api.Read {
	return api.Read{T: api.Ticket{Serial: 1, Kind: 1, From: 10, To: 20, Class: 2, Card: 0, Start: 0, Days: 1, Uses: 1, Epoch: 0}, Key: 7, J: api.Journey{Left: 1, In: 0}}
}

func back() api.Read {
	return api.Read{T: api.Ticket{Serial: 9999999, Kind: 2, From: 39, To: 0, Class: 1, Card: 3, Start: 99999, Days: 1, Uses: 2, Epoch: 9}, Key: 99, J: api.Journey{Left: 1, In: 40}}
}

func season() api.Read {
	return api.Read{T: api.Ticket{Serial: 77, Kind: 3, From: 2, To: 4, Class: 2, Card: 1, Start: 500, Days: 30, Uses: 0, Epoch: 3}, Key: 0, J: api.Journey{Left: 0, In: 21}}
}

func carnet() api.Read {
	return api.Read{T: api.Ticket{Serial: 1234567, Kind: 4, From: 3, To: 15, Class: 1, Card: 2, Start: 99001, Days: 999, Uses: 20, Epoch: 1}, Key: 40, J: api.Journey{Left: 13, In: 5}}
}

// ofEachKind is what a stripe of each kind says.
func ofEachKind() []api.Read {
	return []api.Read{single(), back(), season(), carnet()}
}

// textOfEachKind is the same as digits, in text, with a blank between fields.
func textOfEachKind() []string {
	return []string{
		"1 0000001 2 0 00000 001 0 10 20 01 00 07",
		"2 9999999 1 3 99999 001 9 39 00 01 40 99",
		"3 0000077 2 1 00500 030 3 2 4 00 21 00",
		"4 1234567 1 2 99001 999 1 03 15 20 13 05 40",
	}
}

// digitsOf is text of decimal digits as digits; blanks are none.
func digitsOf(text string) []byte {
	l := []byte{}
	for _, c := range strings.ReplaceAll(text, " ", "") {
		l = append(l, byte(c-'0'))
	}
	return l
}

// textOf is n as width digits, in text; n has no more digits.
func textOf(n, width int) string {
	s := strconv.Itoa(n)
	return strings.Repeat("0", width-len(s)) + s
}

// putText is what a stripe says as digits, in text, told another way.
func putText(r api.Read) string {
	end := 2
	if r.T.Kind == 3 {
		end = 1
	}
	s := textOf(r.T.Kind, 1) + textOf(r.T.Serial, 7) + textOf(r.T.Class, 1) + textOf(r.T.Card, 1) + textOf(r.T.Start, 5) + textOf(r.T.Days, 3) + textOf(r.T.Epoch, 1)
	s += textOf(r.T.From, end) + textOf(r.T.To, end)
	if r.T.Kind == 4 {
		s += textOf(r.T.Uses, 2)
	}
	return s + textOf(r.J.Left, 2) + textOf(r.J.In, 2) + textOf(r.Key, 2)
}

// with is r with one number that is another.
func with(r api.Read, name string, n int) api.Read {
	*map[string]*int{
		"Serial": &r.T.Serial, "Kind": &r.T.Kind, "From": &r.T.From, "To": &r.T.To, "Class": &r.T.Class, "Card": &r.T.Card,
		"Seat": &r.T.Seat, "Start": &r.T.Start, "Days": &r.T.Days, "Uses": &r.T.Uses, "Epoch": &r.T.Epoch,
		"Left": &r.J.Left, "In": &r.J.In, "Key": &r.Key, "Version": &r.Version,
	}[name] = n
	return r
}

// rightTicket is whether a ticket is right by chapter 9, told another way.
func rightTicket(t api.Ticket) bool {
	in := func(n, least, most int) bool { return least <= n && n <= most }
	if !in(t.Serial, 1, 1<<40) || !in(t.Class, 1, 2) || !in(t.Card, 0, 3) || !in(t.Seat, 0, 999) || !in(t.Start, 0, 99999) || !in(t.Days, 1, 999) || t.Start+t.Days > 100000 || !in(t.Epoch, 0, 9) {
		return false
	}
	way := in(t.From, 0, 39) && in(t.To, 0, 39) && t.From != t.To
	switch t.Kind {
	case 1:
		return way && t.Uses == 1
	case 2:
		return way && t.Uses == 2
	case 3:
		return in(t.From, 1, 6) && in(t.To, 1, 6) && t.From <= t.To && t.Uses == 0
	case 4:
		return way && in(t.Uses, 2, 20)
	}
	return false
}

func suits(t api.Ticket, j api.Journey) bool {
	return j.Left >= 0 && j.Left <= t.Uses && j.In >= 0 && j.In <= 40
}

func wantPut(t *testing.T, r api.Read, want []byte, code api.Errno) {
	t.Helper()
	got, e := Put(r)
	if e != code || !bytes.Equal(got, want) || code != api.OK && got != nil {
		t.Errorf("P13.2: Put(%+v) = %v, %d, want %v, %d", r, got, e, want, code)
	}
}

func wantGet(t *testing.T, l []byte, want api.Read, code api.Errno) {
	t.Helper()
	if got, e := Get(l); got != want || e != code {
		t.Errorf("P13.3: Get(%v) = %+v, %d, want %+v, %d", l, got, e, want, code)
	}
}

// wantBoth holds that r is put as its digits, and its digits are got as r, or, if it is not right, that neither is.
func wantBoth(t *testing.T, r api.Read) {
	t.Helper()
	l := digitsOf(putText(r))
	if rightTicket(r.T) && suits(r.T, r.J) {
		wantPut(t, r, l, api.OK)
		wantGet(t, l, r, api.OK)
	} else {
		wantPut(t, r, nil, api.ErrArg)
		wantGet(t, l, api.Read{}, api.ErrField)
	}
}

func TestSuits(t *testing.T) {
	for uses := -3; uses <= 25; uses++ {
		for left := -3; left <= 28; left++ {
			for in := -3; in <= 45; in++ {
				want := left >= 0 && left <= uses && in >= 0 && in <= 40
				// Nothing of the ticket but its Uses plays a part, right or not.
				for _, x := range []api.Ticket{{Uses: uses}, with(back(), "Uses", uses).T, with(season(), "Uses", uses).T} {
					if got := Suits(x, api.Journey{Left: left, In: in}); got != want {
						t.Fatalf("P13.1: Suits(%+v, %d, %d) is %t", x, left, in, got)
					}
				}
			}
		}
	}
}

func TestSuitsAtTheEndsOfInt(t *testing.T) {
	for _, x := range []struct {
		uses, left, in int
		want           bool
	}{
		{math.MaxInt, math.MaxInt, 40, true}, {math.MaxInt, math.MaxInt, 41, false}, {math.MaxInt, 0, 0, true}, {math.MaxInt - 1, math.MaxInt, 0, false},
		{math.MaxInt, math.MinInt, 0, false}, {math.MinInt, math.MinInt, 0, false}, {math.MinInt, 0, 0, false}, {-1, -1, 0, false}, {-1, 0, 0, false},
		{1, 1, math.MinInt, false}, {1, 1, math.MaxInt, false}, {0, 0, 1 << 32, false}, {0, 1 << 32, 0, false},
	} {
		if got := Suits(api.Ticket{Uses: x.uses}, api.Journey{Left: x.left, In: x.in}); got != x.want {
			t.Errorf("P13.1: Suits(Uses %d, Left %d, In %d) is %t", x.uses, x.left, x.in, got)
		}
	}
}

func TestWidths(t *testing.T) {
	for kind, want := range map[int][]int{
		1: {1, 7, 1, 1, 5, 3, 1, 2, 2, 2, 2, 2},
		2: {1, 7, 1, 1, 5, 3, 1, 2, 2, 2, 2, 2},
		3: {1, 7, 1, 1, 5, 3, 1, 1, 1, 2, 2, 2},
		4: {1, 7, 1, 1, 5, 3, 1, 2, 2, 2, 2, 2, 2},
	} {
		got, e := Widths(kind)
		if !slices.Equal(got, want) || e != api.OK {
			t.Errorf("P13.1: Widths(%d) = %v, %d, want %v", kind, got, e, want)
		}
		clear(got)
		if again, _ := Widths(kind); !slices.Equal(again, want) {
			t.Errorf("R2: Widths(%d) = %v, after an answer was changed", kind, again)
		}
	}
	for _, kind := range append(farOff(), 0, 5, 6, 9, 10, 1<<32+1, 256+1) {
		if got, e := Widths(kind); got != nil || e != api.ErrKind {
			t.Errorf("P13.1: Widths(%d) = %v, %d, want none, %d", kind, got, e, api.ErrKind)
		}
	}
}

func TestExamples(t *testing.T) {
	for i, r := range ofEachKind() {
		l := digitsOf(textOfEachKind()[i])
		wantPut(t, r, l, api.OK)
		wantGet(t, l, r, api.OK)
	}
}

// TestAllOfTwoDigits has each number of each field of one or two digits.
func TestAllOfTwoDigits(t *testing.T) {
	for _, r := range ofEachKind() {
		for _, name := range []string{"Class", "Card", "Epoch"} {
			for n := range 10 {
				wantBoth(t, with(r, name, n))
			}
		}
		for _, name := range []string{"Left", "In", "Key"} {
			for n := range 100 {
				wantBoth(t, with(r, name, n))
			}
		}
		ends := 100
		if r.T.Kind == 3 {
			ends = 10
		}
		for from := range ends {
			for to := range ends {
				wantBoth(t, with(with(r, "From", from), "To", to))
			}
		}
	}
	for uses := range 100 {
		for left := range 100 {
			wantBoth(t, with(with(carnet(), "Uses", uses), "Left", left))
		}
	}
}

func TestSerials(t *testing.T) {
	for _, r := range ofEachKind() {
		for _, n := range []int{0, 1, 2, 9, 10, 99, 100, 123456, 999999, 1000000, 1234567, 9999998, 9999999} {
			wantBoth(t, with(r, "Serial", n))
		}
	}
}

func TestDays(t *testing.T) {
	for _, r := range ofEachKind() {
		for _, start := range []int{0, 1, 9, 10, 12345, 50000, 98999, 99000, 99001, 99002, 99500, 99998, 99999} {
			for _, days := range []int{0, 1, 2, 10, 365, 499, 500, 501, 998, 999} {
				wantBoth(t, with(with(r, "Start", start), "Days", days))
			}
		}
	}
}

func TestPutOfWrongTickets(t *testing.T) {
	for _, r := range ofEachKind() {
		for _, x := range []struct {
			name  string
			wrong []int
		}{
			{"Serial", []int{0}},
			{"Kind", []int{0, 5, 9}},
			{"From", []int{40, 41, 99}},
			{"To", []int{40, 41, 99}},
			{"Class", []int{0, 3}},
			{"Card", []int{4, 10}},
			{"Seat", []int{1000, 1001}},
			{"Start", []int{100000}},
			{"Days", []int{0, 1000}},
			{"Uses", []int{21, 22, 99}},
			{"Epoch", []int{10}},
			{"Left", []int{21, 99, 100, r.T.Uses + 1}},
			{"In", []int{41, 99, 100}},
			{"Key", []int{100, 101, 999}},
			{"Version", []int{1, 2, 3}},
		} {
			for _, n := range append(farOff(), x.wrong...) {
				wrong := with(r, x.name, n)
				wantPut(t, wrong, nil, api.ErrArg)
				// What is wrong is told ahead of what has no room.
				if x.name != "Seat" {
					wantPut(t, with(wrong, "Seat", 5), nil, api.ErrArg)
				}
				if x.name != "Serial" {
					wantPut(t, with(wrong, "Serial", 10000000), nil, api.ErrArg)
				}
			}
		}
		for uses := range 25 {
			if x := with(with(r, "Uses", uses), "Left", 0); !rightTicket(x.T) {
				wantPut(t, x, nil, api.ErrArg)
			} else {
				wantPut(t, x, digitsOf(putText(x)), api.OK)
			}
		}
	}
	wantPut(t, api.Read{}, nil, api.ErrArg)
	wantPut(t, api.Read{J: api.Journey{Left: -1}, Key: -1, Version: -1}, nil, api.ErrArg)
}

func TestPutOfNoRoom(t *testing.T) {
	for _, r := range ofEachKind() {
		for _, seat := range []int{1, 2, 9, 10, 998, 999} {
			wantPut(t, with(r, "Seat", seat), nil, api.ErrFit)
			wantPut(t, with(with(r, "Seat", seat), "Serial", 1<<40), nil, api.ErrFit)
		}
		for _, serial := range []int{10000000, 10000001, 99999999, 1 << 32, 1<<32 + 1, 1<<40 - 1, 1 << 40} {
			wantPut(t, with(r, "Serial", serial), nil, api.ErrFit)
		}
	}
}

func TestGetOfNothing(t *testing.T) {
	wantGet(t, nil, api.Read{}, api.ErrLength)
	wantGet(t, []byte{}, api.Read{}, api.ErrLength)
}

func TestGetOfWrongFirstDigits(t *testing.T) {
	for first := range 256 {
		code := api.ErrDigit
		switch {
		case first >= 1 && first <= 4:
			continue
		case first < 10:
			code = api.ErrKind
		}
		// Whatever stands behind it, and how much: the first digit is asked ahead of that.
		for _, rest := range [][]byte{nil, {0}, {10}, make([]byte, 28), bytes.Repeat([]byte{255}, 28), make([]byte, 500), digitsOf(textOfEachKind()[0])[1:], digitsOf(textOfEachKind()[3])[1:]} {
			wantGet(t, append([]byte{byte(first)}, rest...), api.Read{}, code)
		}
	}
}

func TestGetOfWrongLengths(t *testing.T) {
	for kind, whole := range map[int]int{1: 29, 2: 29, 3: 27, 4: 31} {
		l := digitsOf(textOfEachKind()[kind-1])
		for n := 1; n < 80; n++ {
			if n == whole {
				continue
			}
			x := append(slices.Clone(l), make([]byte, 80)...)[:n]
			wantGet(t, x, api.Read{}, api.ErrLength)
			// Lengths are asked ahead of digits.
			if n > 1 {
				x[n-1] = 10
				wantGet(t, x, api.Read{}, api.ErrLength)
				x[1] = 255
				wantGet(t, x, api.Read{}, api.ErrLength)
			}
		}
		wantGet(t, append(slices.Clone(l), make([]byte, 5000)...), api.Read{}, api.ErrLength)
	}
}

func TestGetOfWrongDigits(t *testing.T) {
	for i, text := range textOfEachKind() {
		for place := range digitsOf(text) {
			for _, wrong := range []byte{10, 11, 15, 16, '0', '9', 128, 255} {
				l := digitsOf(text)
				l[place] = wrong
				wantGet(t, l, api.Read{}, api.ErrDigit)
				// Digits are asked ahead of fields: all the others are wrong here.
				none := make([]byte, len(l))
				none[0] = byte(i + 1)
				none[place] = wrong
				wantGet(t, none, api.Read{}, api.ErrDigit)
			}
		}
	}
}

func TestGetOfWrongFields(t *testing.T) {
	for _, text := range []string{
		"1 0000000 2 0 00000 001 0 10 20 01 00 07", // no serial
		"1 0000001 0 0 00000 001 0 10 20 01 00 07", // no class
		"1 0000001 3 0 00000 001 0 10 20 01 00 07",
		"1 0000001 2 4 00000 001 0 10 20 01 00 07", // no railcard
		"1 0000001 2 0 00000 000 0 10 20 01 00 07", // no days
		"1 0000001 2 0 99999 002 0 10 20 01 00 07", // a last day that is none
		"1 0000001 2 0 00000 001 0 40 20 01 00 07", // no stations
		"1 0000001 2 0 00000 001 0 10 40 01 00 07",
		"1 0000001 2 0 00000 001 0 10 10 01 00 07", // no way
		"1 0000001 2 0 00000 001 0 10 20 02 00 07", // more legs than uses
		"1 0000001 2 0 00000 001 0 10 20 01 41 07", // no station that it went in at
		"2 0000001 2 0 00000 001 0 10 20 03 00 07",
		"3 0000001 2 0 00000 001 0 0 1 00 00 07", // no zones
		"3 0000001 2 0 00000 001 0 1 7 00 00 07",
		"3 0000001 2 0 00000 001 0 3 2 00 00 07",
		"3 0000001 2 0 00000 001 0 2 3 01 00 07",
		"4 0000001 2 0 00000 001 0 10 20 01 01 00 07", // no number of uses
		"4 0000001 2 0 00000 001 0 10 20 00 00 00 07",
		"4 0000001 2 0 00000 001 0 10 20 21 01 00 07",
		"4 0000001 2 0 00000 001 0 10 20 05 06 00 07",
	} {
		wantGet(t, digitsOf(text), api.Read{}, api.ErrField)
	}
	for _, x := range []struct {
		text string
		want api.Read
	}{
		{"1 0000001 2 0 00000 001 0 10 20 00 40 07", with(with(single(), "Left", 0), "In", 40)},
		{"2 9999999 1 3 99999 001 9 39 00 02 00 00", with(with(with(back(), "Left", 2), "In", 0), "Key", 0)},
		{"3 0000077 2 1 00500 030 3 6 6 00 21 00", with(with(season(), "From", 6), "To", 6)},
		{"4 1234567 1 2 99001 999 1 03 15 02 02 05 40", with(with(carnet(), "Uses", 2), "Left", 2)},
	} {
		wantGet(t, digitsOf(x.text), x.want, api.OK)
	}
}

// noise is numbers without a pattern, always the same ones of one seed.
func noise(seed uint64) func(n int) int {
	x := seed*0x9e3779b97f4a7c15 + 1
	return func(n int) int {
		x ^= x << 13
		x ^= x >> 7
		x ^= x << 17
		return int(x>>1) % n
	}
}

// noiseRead is what some stripe says, without a pattern.
func noiseRead(next func(n int) int) api.Read {
	r := api.Read{T: api.Ticket{Serial: 1 + next(9999999), Kind: 1 + next(4), Class: 1 + next(2), Card: next(4), Start: next(99002), Days: 1 + next(999), Epoch: next(10)}, Key: next(100)}
	r.T.From = next(40)
	r.T.To = (r.T.From + 1 + next(39)) % 40
	switch r.T.Kind {
	case 1, 2:
		r.T.Uses = r.T.Kind
	case 3:
		r.T.From = 1 + next(6)
		r.T.To = r.T.From + next(7-r.T.From)
	case 4:
		r.T.Uses = 2 + next(19)
	}
	r.J = api.Journey{Left: next(r.T.Uses + 1), In: next(41)}
	return r
}

func TestPutAndGet(t *testing.T) {
	next := noise(1)
	for range 50000 {
		r := noiseRead(next)
		l, e := Put(r)
		if e != api.OK || !bytes.Equal(l, digitsOf(putText(r))) {
			t.Fatalf("P13.2: Put(%+v) = %v, %d", r, l, e)
		}
		if got, f := Get(l); got != r || f != api.OK {
			t.Fatalf("P13.4: %+v was put as %v, and got as %+v, %d", r, l, got, f)
		}
	}
}

func TestGetAndPut(t *testing.T) {
	next := noise(2)
	right := 0
	for range 100000 {
		l := digitsOf(putText(noiseRead(next)))
		for range next(3) {
			l[next(len(l))] = byte(next(10))
		}
		r, e := Get(l)
		if e != api.OK {
			if r != (api.Read{}) {
				t.Fatalf("R1: Get(%v) = %+v, %d", l, r, e)
			}
			continue
		}
		right++
		if again, f := Put(r); !bytes.Equal(again, l) || f != api.OK {
			t.Fatalf("P13.4: %v was got as %+v, and put as %v, %d", l, r, again, f)
		}
	}
	if right < 30000 {
		t.Errorf("only %d lists of digits were right", right)
	}
}

func TestGetOfAnyBytes(t *testing.T) {
	next := noise(3)
	for range 100000 {
		l := make([]byte, next(40))
		for i := range l {
			l[i] = byte(next(11))
		}
		r, e := Get(l)
		if again, f := Put(r); e == api.OK && (!bytes.Equal(again, l) || f != api.OK) {
			t.Fatalf("P13.4: %v was got as %+v, and put as %v, %d", l, r, again, f)
		}
		if e != api.OK && r != (api.Read{}) {
			t.Fatalf("R1: Get(%v) = %+v, %d", l, r, e)
		}
	}
}

func TestArgumentsAndAnswersStay(t *testing.T) {
	for i, r := range ofEachKind() {
		want := digitsOf(textOfEachKind()[i])
		// Room behind what is handed in is nobody's to write to either.
		whole := append(slices.Clone(want), 9, 9, 9)
		got, _ := Get(whole[:len(want)])
		if !bytes.Equal(whole, append(slices.Clone(want), 9, 9, 9)) {
			t.Errorf("R2: Get changed what was handed in")
		}
		clear(whole)
		if got != r {
			t.Errorf("R2: what Get answered was changed with its argument")
		}
		l, _ := Put(r)
		Put(with(r, "Serial", 5))
		if !bytes.Equal(l, want) {
			t.Errorf("R2: what Put answered was changed later")
		}
		clear(l)
		wantPut(t, r, want, api.OK)
		wantGet(t, want, r, api.OK)
	}
}
