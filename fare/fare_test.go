package fare

import (
	"math"
	"slices"
	"testing"

	"gateline/api"
)

const stations = 40

// farOff is numbers that are none of anything, at the ends of int and about them.
func farOff() []int {
	return []int{math.MinInt, math.MinInt + 1, math.MinInt32, -1000000000, -2, -1, 1000000001, math.MaxInt32, 1 << 32, 1<<32 + 1, 1 << 62, math.MaxInt - 1, math.MaxInt}
}

// railcards is the parts that a price falls into, one of which is off; 0, if none is.
func railcards() []int {
	return []int{0, 3, 2, 10}
}

// prices is prices about which something changes, and some from all of the range.
func prices() []int {
	all := []int{}
	for price := range 2500 {
		all = append(all, price)
	}
	for price := 2500; price < 1000000000; price = price*3/2 + 1 {
		all = append(all, price)
	}
	for less := range 31 {
		all = append(all, 1000000000-less)
	}
	return all
}

// cutOf is what is paid, told another way: what is left over when the price is parted is paid.
func cutOf(price, card int) int {
	parts := railcards()[card]
	if parts == 0 {
		return price
	}
	off := (price - price%parts) / parts
	paid := price - off
	if paid >= 100 {
		return paid
	}
	if price < 100 {
		return price
	}
	return 100
}

// zoneOf is the zone of a station: one more for every fourth station away from 20.
func zoneOf(s int) int {
	if s > 20 {
		return 1 + (s-20)/4
	}
	return 1 + (20-s)/4
}

// zonesOf is how many zones there are from the least to the greatest one on the way.
func zonesOf(from, to int) int {
	passed := []int{}
	for s := min(from, to); s <= max(from, to); s++ {
		passed = append(passed, zoneOf(s))
	}
	return slices.Max(passed) - slices.Min(passed) + 1
}

func TestBase(t *testing.T) {
	for i, want := range []int{180, 275, 370, 465, 560, 655} {
		if got, e := Base(i + 1); got != want || e != api.OK {
			t.Errorf("P8.1: Base(%d) = %d, %d, want %d", i+1, got, e, want)
		}
	}
	for _, zones := range append(farOff(), 0, 7, 8, 40) {
		if got, e := Base(zones); got != 0 || e != api.ErrArg {
			t.Errorf("P8.1: Base(%d) = %d, %d, want 0, %d", zones, got, e, api.ErrArg)
		}
	}
}

func TestCutByNumbers(t *testing.T) {
	for _, x := range []struct{ price, card, want int }{
		{180, 0, 180}, {180, 1, 120}, {180, 2, 100}, {180, 3, 162},
		{1000, 0, 1000}, {1000, 1, 667}, {1000, 2, 500}, {1000, 3, 900},
		{1001, 1, 668}, {1002, 1, 668}, {1001, 2, 501}, {1009, 3, 909}, {1010, 3, 909},
		{149, 1, 100}, {150, 1, 100}, {151, 1, 101}, {152, 1, 102}, {153, 1, 102},
		{199, 2, 100}, {200, 2, 100}, {201, 2, 101}, {202, 2, 101}, {203, 2, 102},
		{109, 3, 100}, {110, 3, 100}, {111, 3, 100}, {112, 3, 101},
		{101, 0, 101}, {101, 1, 100}, {101, 2, 100}, {101, 3, 100},
		{100, 0, 100}, {100, 1, 100}, {100, 2, 100}, {100, 3, 100},
		{99, 0, 99}, {99, 1, 99}, {99, 2, 99}, {99, 3, 99},
		{1, 0, 1}, {1, 1, 1}, {1, 2, 1}, {1, 3, 1}, {0, 0, 0}, {0, 1, 0}, {0, 2, 0}, {0, 3, 0},
		{1000000000, 0, 1000000000}, {1000000000, 1, 666666667}, {1000000000, 2, 500000000}, {1000000000, 3, 900000000},
		{999999999, 1, 666666666}, {999999999, 2, 500000000}, {999999999, 3, 900000000},
	} {
		if got, e := Cut(x.price, x.card); got != x.want || e != api.OK {
			t.Errorf("P8.1: Cut(%d, %d) = %d, %d, want %d", x.price, x.card, got, e, x.want)
		}
	}
}

func TestCutOfAll(t *testing.T) {
	for _, price := range prices() {
		for card := range railcards() {
			if got, e := Cut(price, card); got != cutOf(price, card) || e != api.OK {
				t.Errorf("P8.1: Cut(%d, %d) = %d, %d, want %d", price, card, got, e, cutOf(price, card))
			}
		}
	}
}

func TestCutOfWrongArguments(t *testing.T) {
	wrongCards := append(farOff(), 4, 5, 10, 1000)
	for _, price := range append(farOff(), 0, 1, 99, 180, 1000000000) {
		for _, card := range wrongCards {
			if got, e := Cut(price, card); got != 0 || e != api.ErrArg {
				t.Errorf("P8.1: Cut(%d, %d) = %d, %d, want 0, %d", price, card, got, e, api.ErrArg)
			}
		}
	}
	for _, price := range farOff() {
		for card := range railcards() {
			if got, e := Cut(price, card); got != 0 || e != api.ErrArg {
				t.Errorf("P8.1: Cut(%d, %d) = %d, %d, want 0, %d", price, card, got, e, api.ErrArg)
			}
		}
	}
}

func TestSingleByNumbers(t *testing.T) {
	for _, x := range []struct{ from, to, class, card, want int }{
		{20, 20, 2, 0, 180}, {20, 20, 1, 0, 270}, {17, 23, 2, 0, 180}, {17, 23, 2, 2, 100}, {17, 23, 1, 2, 135},
		{0, 0, 2, 0, 180}, {39, 36, 2, 0, 180}, {0, 1, 2, 0, 275}, {1, 39, 2, 0, 560}, {0, 39, 2, 0, 655},
		{0, 39, 1, 0, 982}, {0, 39, 1, 1, 655}, {0, 39, 1, 2, 491}, {0, 39, 1, 3, 884},
		{0, 39, 2, 1, 437}, {0, 39, 2, 2, 328}, {0, 39, 2, 3, 590},
		{10, 20, 2, 0, 370}, {10, 20, 1, 0, 555}, {10, 20, 1, 1, 370}, {10, 30, 2, 0, 370}, {30, 39, 2, 0, 370},
		{16, 20, 1, 0, 412}, {16, 20, 1, 3, 371}, {16, 20, 1, 1, 275}, {16, 20, 2, 2, 138}, {16, 24, 2, 0, 275},
		{5, 20, 2, 0, 465}, {5, 20, 1, 0, 697}, {5, 20, 1, 2, 349}, {4, 36, 2, 0, 560},
	} {
		if got, e := Single(x.from, x.to, x.class, x.card); got != x.want || e != api.OK {
			t.Errorf("P8.2: Single(%d, %d, %d, %d) = %d, %d, want %d", x.from, x.to, x.class, x.card, got, e, x.want)
		}
	}
}

func TestSingleOfAll(t *testing.T) {
	for from := range stations {
		for to := range stations {
			second := 180 + 95*(zonesOf(from, to)-1)
			first := (3*second - (3*second)%2) / 2
			for card := range railcards() {
				for class, full := range map[int]int{1: first, 2: second} {
					want := cutOf(full, card)
					if got, e := Single(from, to, class, card); got != want || e != api.OK {
						t.Errorf("P8.2: Single(%d, %d, %d, %d) = %d, %d, want %d", from, to, class, card, got, e, want)
					}
				}
			}
		}
	}
}

// TestSingleOfWrongArguments has something wrong in one place, and then in others as well.
func TestSingleOfWrongArguments(t *testing.T) {
	froms := append([]int{10}, append(farOff(), 40, 41)...)
	classes := append([]int{1, 2}, append(farOff(), 0, 3, 4)...)
	cards := append([]int{0, 3}, append(farOff(), 4, 5)...)
	for _, from := range froms {
		for _, to := range froms {
			for _, class := range classes {
				for _, card := range cards {
					right := from == 10 && to == 10 && (class == 1 || class == 2) && (card == 0 || card == 3)
					if right {
						continue
					}
					if got, e := Single(from, to, class, card); got != 0 || e != api.ErrArg {
						t.Errorf("P8.2: Single(%d, %d, %d, %d) = %d, %d, want 0, %d", from, to, class, card, got, e, api.ErrArg)
					}
				}
			}
		}
	}
}

func TestBackByNumbers(t *testing.T) {
	for _, x := range []struct{ price, left, all, want int }{
		{1000, 2, 2, 850}, {1000, 1, 2, 350}, {1000, 0, 2, 0}, {1000, 1, 1, 850}, {1000, 2, 3, 516}, {1000, 1, 3, 183},
		{149, 1, 1, 0}, {150, 1, 1, 0}, {151, 1, 1, 1}, {152, 1, 1, 2},
		{300, 1, 2, 0}, {301, 1, 2, 0}, {302, 1, 2, 1}, {303, 1, 2, 1}, {304, 1, 2, 2},
		{0, 0, 1, 0}, {0, 20, 20, 0}, {1, 1, 1, 0}, {655, 19, 20, 472}, {655, 1, 20, 0}, {655, 20, 20, 505},
		{1000000000, 20, 20, 999999850}, {1000000000, 19, 20, 949999850}, {1000000000, 1, 20, 49999850}, {1000000000, 0, 20, 0},
		{999999999, 7, 20, 349999849}, {1000000000, 2, 3, 666666516}, {1000000000, 1, 1, 999999850},
	} {
		if got, e := Back(x.price, x.left, x.all); got != x.want || e != api.OK {
			t.Errorf("P8.3: Back(%d, %d, %d) = %d, %d, want %d", x.price, x.left, x.all, got, e, x.want)
		}
	}
}

func TestBackOfAll(t *testing.T) {
	for _, price := range prices() {
		for all := 1; all <= 20; all++ {
			for left := 0; left <= all; left++ {
				share := price * left
				want := (share-share%all)/all - 150
				if want < 0 {
					want = 0
				}
				if got, e := Back(price, left, all); got != want || e != api.OK {
					t.Fatalf("P8.3: Back(%d, %d, %d) = %d, %d, want %d", price, left, all, got, e, want)
				}
			}
		}
	}
}

func TestBackOfWrongArguments(t *testing.T) {
	for _, price := range append(farOff(), 0, 1000, 1000000000) {
		for _, left := range append(farOff(), 0, 1, 2, 19, 20, 21) {
			for _, all := range append(farOff(), 0, 1, 2, 20, 21) {
				right := price >= 0 && price <= 1000000000 && all >= 1 && all <= 20 && left >= 0 && left <= all
				if got, e := Back(price, left, all); !right && (got != 0 || e != api.ErrArg) {
					t.Errorf("P8.3: Back(%d, %d, %d) = %d, %d, want 0, %d", price, left, all, got, e, api.ErrArg)
				} else if right && e != api.OK {
					t.Errorf("P8.3: Back(%d, %d, %d) tells %d", price, left, all, e)
				}
			}
		}
	}
}

func TestNoRailcardMakesAPriceMore(t *testing.T) {
	for _, price := range prices() {
		for card := range railcards() {
			got, e := Cut(price, card)
			if got > price || got < min(price, 100) || e != api.OK {
				t.Errorf("P8.4: Cut(%d, %d) = %d, %d", price, card, got, e)
			}
		}
	}
}

func TestTheWayBackAndTheClasses(t *testing.T) {
	for from := range stations {
		for to := range stations {
			for card := range railcards() {
				first, _ := Single(from, to, 1, card)
				second, _ := Single(from, to, 2, card)
				firstBack, _ := Single(to, from, 1, card)
				secondBack, _ := Single(to, from, 2, card)
				none, _ := Single(from, to, 2, 0)
				if first != firstBack || second != secondBack {
					t.Errorf("P8.4: from %d to %d, with railcard %d: %d and %d, and back %d and %d", from, to, card, first, second, firstBack, secondBack)
				}
				if first < second || second < 100 || second > none {
					t.Errorf("P8.4: from %d to %d, with railcard %d: class 1 costs %d, class 2 %d, and %d without it", from, to, card, first, second, none)
				}
			}
		}
	}
}

func TestNobodyGetsMoreBack(t *testing.T) {
	for _, price := range prices() {
		for all := 1; all <= 20; all++ {
			before := 0
			for left := 0; left <= all; left++ {
				got, e := Back(price, left, all)
				if got > price || got < before || e != api.OK {
					t.Fatalf("P8.4: Back(%d, %d, %d) = %d, %d, and for a leg fewer %d", price, left, all, got, e, before)
				}
				before = got
			}
		}
	}
}

func TestAnswersHangOnArgumentsAlone(t *testing.T) {
	for range 50 {
		for card, want := range []int{982, 655, 491, 884} {
			if got, e := Single(39, 0, 1, card); got != want || e != api.OK {
				t.Fatalf("R2: Single(39, 0, 1, %d) = %d, %d, want %d", card, got, e, want)
			}
		}
	}
}
