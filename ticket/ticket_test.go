package ticket

import (
	"math"
	"testing"

	"gateline/api"
)

const stations = 40

// farOff is numbers that are none of anything, at the ends of int and about them.
func farOff() []int {
	return []int{math.MinInt, math.MinInt + 1, math.MinInt32, -1000000000, -2, -1, 1<<40 + 1, 1 << 41, 1 << 62, math.MaxInt - 1, math.MaxInt}
}

func single() api.Ticket {
	return api.Ticket{Serial: 1, Kind: 1, From: 10, To: 20, Class: 2, Card: 0, Seat: 0, Start: 0, Days: 1, Uses: 1, Epoch: 0}
}

func back() api.Ticket {
	return api.Ticket{Serial: 1 << 40, Kind: 2, From: 39, To: 0, Class: 1, Card: 3, Seat: 999, Start: 99999, Days: 1, Uses: 2, Epoch: 9}
}

func season() api.Ticket {
	return api.Ticket{Serial: 77, Kind: 3, From: 2, To: 4, Class: 2, Card: 1, Seat: 12, Start: 500, Days: 30, Uses: 0, Epoch: 3}
}

func carnet() api.Ticket {
	return api.Ticket{Serial: 123456789012, Kind: 4, From: 30, To: 15, Class: 1, Card: 2, Seat: 1, Start: 99001, Days: 999, Uses: 20, Epoch: 1}
}

// ofEachKind is a right ticket of each kind.
func ofEachKind() []api.Ticket {
	return []api.Ticket{single(), back(), season(), carnet()}
}

// with is t with one field that is another.
func with(t api.Ticket, name string, n int) api.Ticket {
	*map[string]*int{
		"Serial": &t.Serial, "Kind": &t.Kind, "From": &t.From, "To": &t.To, "Class": &t.Class, "Card": &t.Card,
		"Seat": &t.Seat, "Start": &t.Start, "Days": &t.Days, "Uses": &t.Uses, "Epoch": &t.Epoch,
	}[name] = n
	return t
}

// zoneOf is the zone of a station: one more for every fourth station away from 20.
func zoneOf(s int) int {
	if s > 20 {
		return 1 + (s-20)/4
	}
	return 1 + (20-s)/4
}

// dayOrWayPrice is the price of so many zones in a class, without a railcard.
func dayOrWayPrice(zones, class int) int {
	price := 85 + 95*zones
	if class == 1 {
		price = (3*price - price%2) / 2
	}
	return price
}

// wayZones is how many zones there are from the least to the greatest one on the way.
func wayZones(from, to int) int {
	least, greatest := 6, 1
	for s := min(from, to); s <= max(from, to); s++ {
		least = min(least, zoneOf(s))
		greatest = max(greatest, zoneOf(s))
	}
	return greatest - least + 1
}

// paid is what is paid of a price with a railcard.
func paid(price, card int) int {
	parts := []int{0, 3, 2, 10}[card]
	if parts == 0 || price < 100 {
		return price
	}
	return max(100, price-(price-price%parts)/parts)
}

// priceOf is what a right ticket costs, told another way.
func priceOf(t api.Ticket) int {
	if t.Kind == 3 {
		return paid(t.Days*dayOrWayPrice(t.To-t.From+1, t.Class), t.Card)
	}
	whole := t.Uses * paid(dayOrWayPrice(wayZones(t.From, t.To), t.Class), t.Card)
	switch t.Kind {
	case 2:
		whole -= (whole - whole%10) / 10
	case 4:
		whole -= (whole - whole%5) / 5
	}
	return whole
}

// expectWrong holds that t is refused by every call.
func expectWrong(t *testing.T, x api.Ticket) {
	t.Helper()
	if Is(x) {
		t.Errorf("P9.1: Is(%+v) is true", x)
	}
	if last, e := Last(x); last != 0 || e != api.ErrArg {
		t.Errorf("P9.1: Last(%+v) = %d, %d, want 0, %d", x, last, e, api.ErrArg)
	}
	for _, s := range []int{20, 10, 0, -1, 40} {
		if covers, e := Covers(x, s); covers || e != api.ErrArg {
			t.Errorf("P9.1: Covers(%+v, %d) = %t, %d, want false, %d", x, s, covers, e, api.ErrArg)
		}
	}
	if price, e := Price(x); price != 0 || e != api.ErrArg {
		t.Errorf("P9.2: Price(%+v) = %d, %d, want 0, %d", x, price, e, api.ErrArg)
	}
}

// expectRight holds that t is a right ticket to every call.
func expectRight(t *testing.T, x api.Ticket) {
	t.Helper()
	if !Is(x) {
		t.Errorf("P9.1: Is(%+v) is false", x)
	}
	if last, e := Last(x); last != x.Start+x.Days-1 || e != api.OK {
		t.Errorf("P9.1: Last(%+v) = %d, %d, want %d", x, last, e, x.Start+x.Days-1)
	}
	if _, e := Covers(x, 20); e != api.OK {
		t.Errorf("P9.1: Covers(%+v, 20) tells %d", x, e)
	}
	if price, e := Price(x); price != priceOf(x) || e != api.OK {
		t.Errorf("P9.2: Price(%+v) = %d, %d, want %d", x, price, e, priceOf(x))
	}
}

// TestBoundsOfEveryKind has numbers about each bound that does not hang on the kind.
func TestBoundsOfEveryKind(t *testing.T) {
	for _, x := range ofEachKind() {
		expectRight(t, x)
		for _, f := range []struct {
			name         string
			right, wrong []int
		}{
			{"Serial", []int{1, 2, 9999999, 10000000, 1<<40 - 1, 1 << 40}, []int{0}},
			{"Class", []int{1, 2}, []int{0, 3, 4}},
			{"Card", []int{0, 1, 2, 3}, []int{4, 5}},
			{"Seat", []int{0, 1, 998, 999}, []int{1000, 1001}},
			{"Epoch", []int{0, 1, 8, 9}, []int{10, 11}},
		} {
			for _, n := range f.right {
				expectRight(t, with(x, f.name, n))
			}
			for _, n := range append(farOff(), f.wrong...) {
				expectWrong(t, with(x, f.name, n))
			}
		}
	}
}

func TestKinds(t *testing.T) {
	for _, x := range ofEachKind() {
		for _, n := range append(farOff(), 0, 5, 6) {
			expectWrong(t, with(x, "Kind", n))
		}
	}
	expectWrong(t, api.Ticket{})
	// The same numbers are not right of a kind that asks for others.
	for kind, asked := range map[int]map[int]bool{
		1: {1: true},
		2: {2: true, 4: true},
		3: {},
		4: {2: true, 4: true},
	} {
		x := with(ofEachKind()[kind-1], "Uses", map[int]int{1: 1, 2: 2, 3: 0, 4: 2}[kind])
		for other := 1; other <= 4; other++ {
			if y := with(x, "Kind", other); other == kind || asked[other] {
				expectRight(t, y)
			} else {
				expectWrong(t, y)
			}
		}
	}
}

func TestUsesOfEachKind(t *testing.T) {
	least, most := []int{1, 2, 0, 2}, []int{1, 2, 0, 20}
	for i, x := range ofEachKind() {
		for uses := -3; uses <= 25; uses++ {
			if y := with(x, "Uses", uses); uses >= least[i] && uses <= most[i] {
				expectRight(t, y)
			} else {
				expectWrong(t, y)
			}
		}
		for _, uses := range farOff() {
			expectWrong(t, with(x, "Uses", uses))
		}
	}
}

// TestDays has days about each bound, and about what they may be together.
func TestDays(t *testing.T) {
	for _, x := range ofEachKind() {
		for _, start := range append(farOff(), 0, 1, 50000, 99000, 99001, 99002, 99998, 99999, 100000, 100001) {
			for _, days := range append(farOff(), 0, 1, 2, 500, 998, 999, 1000, 1001) {
				y := with(with(x, "Start", start), "Days", days)
				if start >= 0 && start <= 99999 && days >= 1 && days <= 999 && start+days <= 100000 {
					expectRight(t, y)
				} else {
					expectWrong(t, y)
				}
			}
		}
	}
}

func TestStationsOfWays(t *testing.T) {
	for _, x := range []api.Ticket{single(), back(), carnet()} {
		for from := -3; from < stations+3; from++ {
			for to := -3; to < stations+3; to++ {
				y := with(with(x, "From", from), "To", to)
				if from >= 0 && from < stations && to >= 0 && to < stations && from != to {
					expectRight(t, y)
				} else {
					expectWrong(t, y)
				}
			}
		}
		for _, s := range farOff() {
			expectWrong(t, with(x, "From", s))
			expectWrong(t, with(x, "To", s))
			expectWrong(t, with(with(x, "From", s), "To", s))
		}
	}
}

func TestZonesOfSeasons(t *testing.T) {
	for from := -3; from <= 45; from++ {
		for to := -3; to <= 45; to++ {
			y := with(with(season(), "From", from), "To", to)
			if from >= 1 && to <= 6 && from <= to {
				expectRight(t, y)
			} else {
				expectWrong(t, y)
			}
		}
	}
	for _, zone := range farOff() {
		expectWrong(t, with(season(), "From", zone))
		expectWrong(t, with(season(), "To", zone))
		expectWrong(t, with(with(season(), "From", zone), "To", zone))
	}
}

func TestLastByNumbers(t *testing.T) {
	for _, x := range []struct{ start, days, want int }{
		{0, 1, 0}, {0, 2, 1}, {0, 999, 998}, {59, 1, 59}, {500, 30, 529}, {99999, 1, 99999}, {99001, 999, 99999}, {99000, 999, 99998}, {99998, 2, 99999},
	} {
		for _, y := range ofEachKind() {
			y = with(with(y, "Start", x.start), "Days", x.days)
			if got, e := Last(y); got != x.want || e != api.OK {
				t.Errorf("P9.1: Last(%+v) = %d, %d, want %d", y, got, e, x.want)
			}
		}
	}
}

func TestCoversByNumbers(t *testing.T) {
	for _, x := range []struct {
		kind, from, to, s int
		want              bool
	}{
		{1, 10, 20, 9, false}, {1, 10, 20, 10, true}, {1, 10, 20, 15, true}, {1, 10, 20, 20, true}, {1, 10, 20, 21, false},
		{2, 20, 10, 9, false}, {2, 20, 10, 10, true}, {2, 20, 10, 15, true}, {2, 20, 10, 20, true}, {2, 20, 10, 21, false},
		{4, 3, 5, 2, false}, {4, 3, 5, 3, true}, {4, 3, 5, 4, true}, {4, 3, 5, 5, true}, {4, 3, 5, 6, false},
		{1, 3, 5, 20, false}, {2, 3, 5, 20, false}, {2, 0, 39, 0, true}, {2, 0, 39, 39, true}, {2, 1, 38, 0, false}, {2, 1, 38, 39, false},
		{3, 1, 1, 20, true}, {3, 1, 1, 17, true}, {3, 1, 1, 23, true}, {3, 1, 1, 16, false}, {3, 1, 1, 24, false}, {3, 1, 1, 1, false},
		{3, 3, 5, 0, false}, {3, 3, 5, 1, true}, {3, 3, 5, 4, true}, {3, 3, 5, 12, true}, {3, 3, 5, 13, false}, {3, 3, 5, 27, false}, {3, 3, 5, 28, true}, {3, 3, 5, 39, true},
		{3, 6, 6, 0, true}, {3, 6, 6, 1, false}, {3, 6, 6, 39, false}, {3, 1, 6, 0, true}, {3, 1, 6, 39, true},
	} {
		y := with(with(ofEachKind()[x.kind-1], "From", x.from), "To", x.to)
		if got, e := Covers(y, x.s); got != x.want || e != api.OK {
			t.Errorf("P9.1: Covers(%+v, %d) = %t, %d, want %t", y, x.s, got, e, x.want)
		}
	}
}

func TestCoversOfAll(t *testing.T) {
	for from := range stations {
		for to := range stations {
			for _, x := range ofEachKind() {
				x.From, x.To = from, to
				if !Is(x) {
					continue
				}
				for s := range stations {
					want := s >= min(from, to) && s <= max(from, to)
					if x.Kind == 3 {
						want = zoneOf(s) >= from && zoneOf(s) <= to
					}
					if got, e := Covers(x, s); got != want || e != api.OK {
						t.Fatalf("P9.1: Covers(%+v, %d) = %t, %d, want %t", x, s, got, e, want)
					}
				}
			}
		}
	}
}

func TestCoversOfNoStation(t *testing.T) {
	for _, x := range append(ofEachKind(), with(season(), "From", 1), with(with(season(), "From", 1), "To", 6)) {
		for _, s := range append(farOff(), 40, 41, 100) {
			if got, e := Covers(x, s); got || e != api.ErrArg {
				t.Errorf("P9.1: Covers(%+v, %d) = %t, %d, want false, %d", x, s, got, e, api.ErrArg)
			}
		}
	}
}

func TestPriceByNumbers(t *testing.T) {
	for _, x := range []struct{ kind, from, to, class, card, days, uses, want int }{
		{1, 10, 20, 2, 0, 1, 1, 370}, {1, 10, 20, 1, 0, 1, 1, 555}, {1, 10, 20, 1, 2, 1, 1, 278}, {1, 20, 10, 1, 2, 30, 1, 278}, {1, 19, 21, 2, 2, 1, 1, 100},
		{2, 10, 20, 2, 0, 1, 2, 666}, {2, 10, 20, 1, 2, 1, 2, 501}, {2, 20, 10, 1, 2, 30, 2, 501}, {2, 10, 20, 1, 0, 1, 2, 999}, {2, 19, 21, 2, 2, 1, 2, 180},
		{2, 0, 39, 1, 0, 1, 2, 1768}, {2, 0, 39, 2, 1, 1, 2, 787}, {2, 0, 39, 2, 2, 1, 2, 591},
		{4, 10, 20, 1, 2, 1, 2, 445}, {4, 10, 20, 1, 2, 1, 3, 668}, {4, 10, 20, 1, 2, 1, 10, 2224}, {4, 10, 20, 2, 0, 1, 20, 5920}, {4, 19, 21, 2, 2, 90, 20, 1600},
		{4, 0, 39, 1, 0, 1, 3, 2357}, {4, 0, 39, 2, 1, 1, 7, 2448}, {4, 39, 0, 2, 1, 1, 7, 2448},
		{3, 3, 3, 2, 0, 1, 0, 180}, {3, 3, 3, 2, 2, 1, 0, 100}, {3, 3, 3, 2, 2, 7, 0, 630}, {3, 3, 3, 1, 0, 1, 0, 270}, {3, 1, 1, 2, 0, 30, 0, 5400},
		{3, 1, 2, 1, 0, 7, 0, 2884}, {3, 5, 6, 1, 3, 7, 0, 2596}, {3, 2, 4, 2, 1, 30, 0, 7400}, {3, 1, 6, 1, 1, 30, 0, 19640},
		{3, 1, 6, 1, 0, 999, 0, 981018}, {3, 1, 6, 2, 0, 999, 0, 654345}, {3, 1, 6, 1, 2, 999, 0, 490509}, {3, 1, 6, 2, 1, 2, 0, 874},
	} {
		y := ofEachKind()[x.kind-1]
		y.From, y.To, y.Class, y.Card, y.Start, y.Days, y.Uses = x.from, x.to, x.class, x.card, 7, x.days, x.uses
		if got, e := Price(y); got != x.want || e != api.OK {
			t.Errorf("P9.2: Price(%+v) = %d, %d, want %d", y, got, e, x.want)
		}
	}
}

func TestPriceOfAllWays(t *testing.T) {
	for from := range stations {
		for to := range stations {
			if from == to {
				continue
			}
			for class := 1; class <= 2; class++ {
				for card := range 4 {
					x := api.Ticket{Serial: 5, From: from, To: to, Class: class, Card: card, Days: 10}
					for uses := 1; uses <= 20; uses++ {
						expectPrice(t, with(with(x, "Kind", kindOfUses(uses)), "Uses", uses))
					}
					expectPrice(t, with(with(x, "Kind", 2), "Uses", 2))
				}
			}
		}
	}
}

func kindOfUses(uses int) int {
	if uses == 1 {
		return 1
	}
	return 4
}

func TestPriceOfAllSeasons(t *testing.T) {
	for from := 1; from <= 6; from++ {
		for to := from; to <= 6; to++ {
			for class := 1; class <= 2; class++ {
				for card := range 4 {
					for days := 1; days <= 999; days++ {
						expectPrice(t, api.Ticket{Serial: 5, Kind: 3, From: from, To: to, Class: class, Card: card, Days: days})
					}
				}
			}
		}
	}
}

func expectPrice(t *testing.T, x api.Ticket) {
	t.Helper()
	if got, e := Price(x); got != priceOf(x) || e != api.OK {
		t.Fatalf("P9.2: Price(%+v) = %d, %d, want %d", x, got, e, priceOf(x))
	}
}

// TestPriceHangsOnNothingElse changes what is not on the bill.
func TestPriceHangsOnNothingElse(t *testing.T) {
	for _, x := range ofEachKind() {
		want, _ := Price(x)
		y := x
		y.Serial, y.Seat, y.Start, y.Epoch = 9, 500, 3, 5
		if x.Kind != 3 {
			y.Days = 77
		}
		if got, e := Price(y); got != want || e != api.OK {
			t.Errorf("P9.2: Price(%+v) = %d, %d, want %d", y, got, e, want)
		}
	}
}

func TestSomeStationIsCovered(t *testing.T) {
	for from := range stations {
		for to := range stations {
			for _, x := range ofEachKind() {
				x.From, x.To = from, to
				if !Is(x) {
					continue
				}
				covered := map[int]bool{}
				for s := range stations {
					if on, e := Covers(x, s); on && e == api.OK {
						covered[s] = true
					}
				}
				if len(covered) == 0 || x.Kind != 3 && !(covered[from] && covered[to]) {
					t.Errorf("P9.3: %+v covers %v", x, covered)
				}
			}
		}
	}
}

func TestNobodyPaysMoreThanForSingles(t *testing.T) {
	for from := range stations {
		for to := range stations {
			for class := 1; class <= 2 && from != to; class++ {
				for card := range 4 {
					x := single()
					x.From, x.To, x.Class, x.Card = from, to, class, card
					one, _ := Price(x)
					y := with(with(x, "Kind", 2), "Uses", 2)
					if got, e := Price(y); got > 2*one || e != api.OK {
						t.Errorf("P9.3: Price(%+v) = %d, %d, and a single's is %d", y, got, e, one)
					}
					for uses := 2; uses <= 20; uses++ {
						y := with(with(x, "Kind", 4), "Uses", uses)
						if got, e := Price(y); got > uses*one || e != api.OK {
							t.Errorf("P9.3: Price(%+v) = %d, %d, and a single's is %d", y, got, e, one)
						}
					}
				}
			}
		}
	}
}

func TestNoRailcardMakesATicketCostMore(t *testing.T) {
	for from := range stations {
		for to := range stations {
			for class := 1; class <= 2; class++ {
				for _, x := range ofEachKind() {
					x.From, x.To, x.Class, x.Card = from, to, class, 0
					if !Is(x) {
						continue
					}
					full, _ := Price(x)
					for card := 1; card <= 3; card++ {
						if got, e := Price(with(x, "Card", card)); got > full || got <= 0 || e != api.OK {
							t.Errorf("P9.3: with railcard %d %+v costs %d, %d, and %d without", card, x, got, e, full)
						}
					}
				}
			}
		}
	}
}

func TestAnswersHangOnArgumentsAlone(t *testing.T) {
	for range 50 {
		for i, want := range []int{370, 1592, 7400, 4448} {
			x := ofEachKind()[i]
			if got, e := Price(x); got != want || e != api.OK || x != ofEachKind()[i] {
				t.Fatalf("R2: Price(%+v) = %d, %d, want %d", x, got, e, want)
			}
		}
	}
}
