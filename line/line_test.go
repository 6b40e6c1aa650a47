package line

import (
	"math"
	"slices"
	"testing"

	"gateline/api"
)

const stations = 40

// zoneTable is the zone of each station, counted from the chapter by hand: station 20 is the middle, and every fourth one away from it begins another zone.
func zoneTable() []int {
	return []int{
		6, 5, 5, 5, 5, 4, 4, 4, 4, 3,
		3, 3, 3, 2, 2, 2, 2, 1, 1, 1,
		1, 1, 1, 1, 2, 2, 2, 2, 3, 3,
		3, 3, 4, 4, 4, 4, 5, 5, 5, 5,
	}
}

// noStations is numbers beside the stations, near and far.
func noStations() []int {
	return []int{-1, -2, -20, -40, 40, 41, 60, 80, 255, 256, 1 << 32, 1<<32 + 20, math.MinInt, math.MinInt + 1, math.MinInt + 20, math.MinInt32, math.MaxInt32, math.MaxInt - 20, math.MaxInt - 1, math.MaxInt}
}

// numbers is all stations, and numbers beside them.
func numbers() []int {
	all := noStations()
	for s := range stations {
		all = append(all, s)
	}
	return all
}

func isStation(s int) bool {
	return s >= 0 && s < stations
}

// walk is the stations that are passed from a to b, step by step, in that direction.
func walk(a, b int) []int {
	passed := []int{a}
	for a != b {
		if a < b {
			a++
		} else {
			a--
		}
		passed = append(passed, a)
	}
	return passed
}

func TestIs(t *testing.T) {
	for s := -100; s <= 140; s++ {
		if got := Is(s); got != isStation(s) {
			t.Errorf("P7.1: Is(%d) = %v", s, got)
		}
	}
	for _, s := range noStations() {
		if Is(s) {
			t.Errorf("P7.1: %d is a station", s)
		}
	}
}

func TestZoneOfAllStations(t *testing.T) {
	for s, want := range zoneTable() {
		if got, e := Zone(s); got != want || e != api.OK {
			t.Errorf("P7.1: Zone(%d) = %d, %d, want %d", s, got, e, want)
		}
	}
}

func TestZoneOfNoStations(t *testing.T) {
	for _, s := range noStations() {
		if got, e := Zone(s); got != 0 || e != api.ErrArg {
			t.Errorf("P7.1: Zone(%d) = %d, %d, want 0, %d", s, got, e, api.ErrArg)
		}
	}
}

func TestBetweenByNumbers(t *testing.T) {
	for _, x := range []struct {
		a, b, s int
		want    bool
	}{
		{10, 20, 12, true}, {10, 20, 10, true}, {10, 20, 20, true}, {10, 20, 9, false}, {10, 20, 21, false},
		{20, 10, 12, true}, {20, 10, 10, true}, {20, 10, 20, true}, {20, 10, 9, false}, {20, 10, 21, false},
		{0, 39, 0, true}, {0, 39, 39, true}, {39, 0, 20, true}, {0, 0, 0, true}, {0, 0, 1, false},
		{39, 39, 39, true}, {39, 39, 38, false}, {0, 1, 39, false}, {38, 39, 0, false},
	} {
		if got, e := Between(x.a, x.b, x.s); got != x.want || e != api.OK {
			t.Errorf("P7.1: Between(%d, %d, %d) = %v, %d", x.a, x.b, x.s, got, e)
		}
	}
}

// TestBetweenOfAll asks of all stations, and of numbers that are none in each of the three places.
func TestBetweenOfAll(t *testing.T) {
	for _, a := range numbers() {
		for _, b := range numbers() {
			passed := []int{}
			if isStation(a) && isStation(b) {
				passed = walk(a, b)
			}
			for _, s := range numbers() {
				want, code := slices.Contains(passed, s), api.OK
				if !isStation(a) || !isStation(b) || !isStation(s) {
					want, code = false, api.ErrArg
				}
				if got, e := Between(a, b, s); got != want || e != code {
					t.Errorf("P7.1: Between(%d, %d, %d) = %v, %d, want %v, %d", a, b, s, got, e, want, code)
				}
			}
		}
	}
}

func TestZonesByNumbers(t *testing.T) {
	for _, x := range []struct{ a, b, least, greatest int }{
		{20, 20, 1, 1}, {17, 23, 1, 1}, {16, 20, 1, 2}, {20, 24, 1, 2}, {16, 24, 1, 2},
		{0, 0, 6, 6}, {0, 1, 5, 6}, {39, 39, 5, 5}, {36, 39, 5, 5}, {35, 39, 4, 5}, {0, 39, 1, 6},
		{1, 39, 1, 5}, {0, 16, 2, 6}, {24, 39, 2, 5}, {5, 12, 3, 4}, {10, 30, 1, 3}, {13, 24, 1, 2},
	} {
		for _, ends := range [][2]int{{x.a, x.b}, {x.b, x.a}} {
			least, greatest, e := Zones(ends[0], ends[1])
			if least != x.least || greatest != x.greatest || e != api.OK {
				t.Errorf("P7.2: Zones(%d, %d) = %d, %d, %d, want %d, %d", ends[0], ends[1], least, greatest, e, x.least, x.greatest)
			}
		}
	}
}

func TestZonesOfAll(t *testing.T) {
	table := zoneTable()
	for _, a := range numbers() {
		for _, b := range numbers() {
			least, greatest, e := Zones(a, b)
			if !isStation(a) || !isStation(b) {
				if least != 0 || greatest != 0 || e != api.ErrArg {
					t.Errorf("P7.2: Zones(%d, %d) = %d, %d, %d, want 0, 0, %d", a, b, least, greatest, e, api.ErrArg)
				}
				continue
			}
			passed := []int{}
			for _, s := range walk(a, b) {
				passed = append(passed, table[s])
			}
			if least != slices.Min(passed) || greatest != slices.Max(passed) || e != api.OK {
				t.Errorf("P7.2: Zones(%d, %d) = %d, %d, %d, want those of %v", a, b, least, greatest, e, passed)
			}
		}
	}
}

func TestStationsByNumbers(t *testing.T) {
	for _, x := range []struct {
		low, high int
		want      []int
	}{
		{1, 1, []int{17, 18, 19, 20, 21, 22, 23}},
		{2, 2, []int{13, 14, 15, 16, 24, 25, 26, 27}},
		{3, 3, []int{9, 10, 11, 12, 28, 29, 30, 31}},
		{4, 4, []int{5, 6, 7, 8, 32, 33, 34, 35}},
		{5, 5, []int{1, 2, 3, 4, 36, 37, 38, 39}},
		{6, 6, []int{0}},
		{5, 6, []int{0, 1, 2, 3, 4, 36, 37, 38, 39}},
		{1, 2, []int{13, 14, 15, 16, 17, 18, 19, 20, 21, 22, 23, 24, 25, 26, 27}},
		{1, 6, walk(0, 39)},
		{1, 5, walk(1, 39)},
	} {
		if got, e := Stations(x.low, x.high); !slices.Equal(got, x.want) || e != api.OK {
			t.Errorf("P7.2: Stations(%d, %d) = %v, %d, want %v", x.low, x.high, got, e, x.want)
		}
	}
}

func TestStationsOfAll(t *testing.T) {
	bounds := append(noStations(), 0, 1, 2, 3, 4, 5, 6, 7, 8)
	for _, low := range bounds {
		for _, high := range bounds {
			got, e := Stations(low, high)
			if low < 1 || high > 6 || low > high {
				if len(got) != 0 || e != api.ErrArg {
					t.Errorf("P7.2: Stations(%d, %d) = %v, %d, want none, %d", low, high, got, e, api.ErrArg)
				}
				continue
			}
			want := []int{}
			for s, zone := range zoneTable() {
				if low <= zone && zone <= high {
					want = append(want, s)
				}
			}
			if !slices.Equal(got, want) || e != api.OK {
				t.Errorf("P7.2: Stations(%d, %d) = %v, %d, want %v", low, high, got, e, want)
			}
		}
	}
}

func TestTheWayBackHasTheSameStations(t *testing.T) {
	for a := range stations {
		for b := range stations {
			for s := range stations {
				there, _ := Between(a, b, s)
				back, _ := Between(b, a, s)
				if there != back {
					t.Errorf("P7.3: Between(%d, %d, %d) = %v, and on the way back %v", a, b, s, there, back)
				}
			}
			least, greatest, _ := Zones(a, b)
			leastBack, greatestBack, _ := Zones(b, a)
			if least != leastBack || greatest != greatestBack {
				t.Errorf("P7.3: Zones(%d, %d) = %d, %d, and on the way back %d, %d", a, b, least, greatest, leastBack, greatestBack)
			}
		}
	}
}

func TestWhoIsOnTheWayIsWithinItsZones(t *testing.T) {
	for a := range stations {
		for b := range stations {
			least, greatest, e := Zones(a, b)
			within, f := Stations(least, greatest)
			if e != api.OK || f != api.OK {
				t.Errorf("P7.3: Zones(%d, %d) tells %d, and Stations of them %d", a, b, e, f)
			}
			for s := range stations {
				on, _ := Between(a, b, s)
				zone, _ := Zone(s)
				if on && (zone < least || zone > greatest || !slices.Contains(within, s)) {
					t.Errorf("P7.3: %d, of zone %d, is on the way from %d to %d, whose zones are %d to %d", s, zone, a, b, least, greatest)
				}
			}
		}
	}
}

func TestAStationIsOneOfItsZone(t *testing.T) {
	for s := range stations {
		zone, e := Zone(s)
		if e != api.OK {
			t.Fatalf("P7.1: Zone(%d) tells %d", s, e)
		}
		for low := 1; low <= 6; low++ {
			for high := low; high <= 6; high++ {
				of, _ := Stations(low, high)
				if slices.Contains(of, s) != (low <= zone && zone <= high) {
					t.Errorf("P7.3: %d, of zone %d, and Stations(%d, %d) = %v", s, zone, low, high, of)
				}
			}
		}
	}
}

func TestAnswersAreNotChangedLater(t *testing.T) {
	first, _ := Stations(1, 6)
	kept := slices.Clone(first)
	second, _ := Stations(1, 6)
	for i := range second {
		second[i] = -1
	}
	third, _ := Stations(1, 6)
	if !slices.Equal(first, kept) || !slices.Equal(third, kept) {
		t.Errorf("R2: Stations answered %v, and later %v and %v", kept, first, third)
	}
}

// TestAnswersHangOnArgumentsAlone asks again and again, as a map may be gone through in another order each time.
func TestAnswersHangOnArgumentsAlone(t *testing.T) {
	want, _ := Stations(2, 5)
	for range 200 {
		if got, e := Stations(2, 5); !slices.Equal(got, want) || e != api.OK {
			t.Fatalf("R2: Stations(2, 5) = %v, %d, and before %v", got, e, want)
		}
		if least, greatest, e := Zones(35, 3); least != 1 || greatest != 5 || e != api.OK {
			t.Fatalf("R2: Zones(35, 3) = %d, %d, %d", least, greatest, e)
		}
	}
}

func TestAWayThatIsLeftEnds(t *testing.T) {
	for a := range stations {
		for b := range stations {
			told := []int{}
			for s := range way(a, b) {
				told = append(told, s)
				if len(told) == 3 {
					break
				}
			}
			want := slices.Sorted(slices.Values(walk(a, b)))
			if want = want[:min(3, len(want))]; !slices.Equal(told, want) {
				t.Errorf("P7.2: the way from %d to %d begins with %v, want %v", a, b, told, want)
			}
		}
	}
}
