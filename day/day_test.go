package day

import (
	"math"
	"math/big"
	"testing"
	"time"

	"gateline/api"
)

const lastDay = 99999

// extremes is numbers far off all that there is.
func extremes() []int {
	return []int{math.MinInt, math.MinInt + 1, math.MinInt32, -100000, 1 << 40, math.MaxInt32, math.MaxInt - 1, math.MaxInt}
}

// library is the date of that day by the library's calendar.
func library(n int) time.Time {
	return time.Date(2000, 1, 1+n, 0, 0, 0, 0, time.UTC)
}

// libraryDate is t as a date.
func libraryDate(t time.Time) api.Date {
	return api.Date{Year: t.Year(), Month: int(t.Month()), Day: t.Day()}
}

// libraryDay is the day of d by the library's calendar, and whether it has that date, of a day that there is.
func libraryDay(d api.Date) (int, bool) {
	t := time.Date(d.Year, time.Month(d.Month), d.Day, 0, 0, 0, 0, time.UTC)
	n := int(t.Sub(library(0)) / (24 * time.Hour))
	return n, libraryDate(t) == d && n >= 0 && n <= lastDay
}

// divides is whether k divides the year, reckoned without any bound.
func divides(year, k int) bool {
	return new(big.Int).Rem(big.NewInt(int64(year)), big.NewInt(int64(k))).Sign() == 0
}

func checkDate(t *testing.T, d api.Date, n int) {
	t.Helper()
	if got, e := Of(d); got != n || e != api.OK {
		t.Errorf("P6.1: Of(%v) = %d, %d, want %d", d, got, e, n)
	}
	if got, e := Date(n); got != d || e != api.OK {
		t.Errorf("P6.1: Date(%d) = %v, %d, want %v", n, got, e, d)
	}
}

func checkNoDate(t *testing.T, d api.Date) {
	t.Helper()
	if got, e := Of(d); got != 0 || e != api.ErrArg {
		t.Errorf("P6.1: Of(%v) = %d, %d, want 0, %d", d, got, e, api.ErrArg)
	}
}

func TestLeapByNumbers(t *testing.T) {
	for year, want := range map[int]bool{
		0: true, 1: false, 2: false, 3: false, 4: true, 100: false, 200: false, 300: false, 400: true, 404: true,
		1900: false, 1999: false, 2000: true, 2001: false, 2004: true, 2023: false, 2024: true, 2096: true, 2100: false,
		2104: true, 2200: false, 2273: false, 2300: false, 2400: true,
		-1: false, -3: false, -4: true, -96: true, -100: false, -200: false, -399: false, -400: true, -404: true, -2000: true, -2100: false,
		math.MinInt: true, math.MinInt + 1: false, math.MaxInt: false, math.MaxInt - 3: true,
		// The last whole centuries on both sides, of which one alone is divided by 400.
		math.MaxInt - math.MaxInt%400:       true,
		math.MaxInt - math.MaxInt%400 - 100: false,
		math.MinInt - math.MinInt%400:       true,
		math.MinInt - math.MinInt%400 + 100: false,
	} {
		if got := Leap(year); got != want {
			t.Errorf("P6.1: Leap(%d) = %v", year, got)
		}
	}
}

func TestLeapOfAllYearsAround(t *testing.T) {
	check := func(year int) {
		want := divides(year, 4)
		if divides(year, 100) {
			want = divides(year, 400)
		}
		if got := Leap(year); got != want {
			t.Errorf("P6.1: Leap(%d) = %v", year, got)
		}
	}
	for i := range 8001 {
		check(i - 4000)
	}
	for i := range 1000 {
		check(math.MinInt + i)
		check(math.MaxInt - i)
	}
}

func TestDatesByNumbers(t *testing.T) {
	for _, x := range []struct{ year, month, day, n int }{
		{2000, 1, 1, 0}, {2000, 1, 2, 1}, {2000, 1, 31, 30}, {2000, 2, 1, 31}, {2000, 2, 28, 58}, {2000, 2, 29, 59}, {2000, 3, 1, 60},
		{2000, 12, 30, 364}, {2000, 12, 31, 365}, {2001, 1, 1, 366}, {2001, 2, 28, 424}, {2001, 3, 1, 425}, {2001, 12, 31, 730}, {2002, 1, 1, 731},
		{2004, 1, 1, 1461}, {2004, 2, 29, 1520}, {2005, 1, 1, 1827},
		{2100, 1, 1, 36525}, {2100, 2, 28, 36583}, {2100, 3, 1, 36584}, {2101, 1, 1, 36890},
		{2273, 1, 1, 99712}, {2273, 10, 14, 99998}, {2273, 10, 15, 99999},
	} {
		checkDate(t, api.Date{Year: x.year, Month: x.month, Day: x.day}, x.n)
	}
}

// TestFirstDaysOfMonths holds the months of a year against the lengths that the chapter lists.
func TestFirstDaysOfMonths(t *testing.T) {
	for _, year := range []struct{ number, n, february int }{{2000, 0, 29}, {2001, 366, 28}, {2004, 1461, 29}, {2100, 36525, 28}} {
		n := year.n
		for i, length := range []int{31, year.february, 31, 30, 31, 30, 31, 31, 30, 31, 30, 31} {
			checkDate(t, api.Date{Year: year.number, Month: i + 1, Day: 1}, n)
			checkDate(t, api.Date{Year: year.number, Month: i + 1, Day: length}, n+length-1)
			checkNoDate(t, api.Date{Year: year.number, Month: i + 1, Day: length + 1})
			n += length
		}
	}
}

func TestAllDays(t *testing.T) {
	for n := range lastDay + 1 {
		checkDate(t, libraryDate(library(n)), n)
		want := (int(library(n).Weekday()) + 6) % 7
		if got, e := Weekday(n); got != want || e != api.OK {
			t.Errorf("P6.2: Weekday(%d) = %d, %d, want %d", n, got, e, want)
		}
	}
}

// TestAllDatesAround asks Of of all dates in and beside the years that have days, right and wrong.
func TestAllDatesAround(t *testing.T) {
	right := 0
	for year := 1995; year <= 2280; year++ {
		for month := -1; month <= 14; month++ {
			for day := -1; day <= 33; day++ {
				d := api.Date{Year: year, Month: month, Day: day}
				n, ok := libraryDay(d)
				if !ok {
					checkNoDate(t, d)
					continue
				}
				right++
				checkDate(t, d, n)
			}
		}
	}
	if right != lastDay+1 {
		t.Errorf("P6.3: %d dates are right ones, want %d", right, lastDay+1)
	}
}

func TestOfNoDates(t *testing.T) {
	for _, d := range []api.Date{
		{},
		{Year: 2000},
		{Month: 1, Day: 1},
		{Year: 0, Month: 1, Day: 1},
		{Year: -2000, Month: 1, Day: 1},
		{Year: 1999, Month: 12, Day: 31},
		{Year: 1996, Month: 2, Day: 29},
		{Year: 2000, Month: 0, Day: 1},
		{Year: 2000, Month: 13, Day: 1},
		{Year: 2000, Month: -1, Day: 1},
		{Year: 2000, Month: 1, Day: 0},
		{Year: 2000, Month: 1, Day: -1},
		{Year: 2000, Month: 1, Day: 32},
		{Year: 2000, Month: 2, Day: 30},
		{Year: 2000, Month: 4, Day: 31},
		{Year: 2000, Month: 12, Day: 32},
		{Year: 2001, Month: 2, Day: 29},
		{Year: 2001, Month: 1, Day: 0},
		{Year: 2100, Month: 2, Day: 29},
		{Year: 2200, Month: 2, Day: 29},
		{Year: 2273, Month: 10, Day: 16},
		{Year: 2273, Month: 10, Day: 31},
		{Year: 2273, Month: 11, Day: 1},
		{Year: 2273, Month: 12, Day: 31},
		{Year: 2274, Month: 1, Day: 1},
		{Year: 2400, Month: 2, Day: 29},
	} {
		checkNoDate(t, d)
	}
}

// TestOfFarNumbers: a number that is far off does no harm in any place, however it is held against the others.
func TestOfFarNumbers(t *testing.T) {
	for _, x := range extremes() {
		for _, d := range []api.Date{
			{Year: x, Month: 1, Day: 1},
			{Year: 2000, Month: x, Day: 1},
			{Year: 2000, Month: 1, Day: x},
			{Year: 2000, Month: 2, Day: x},
			{Year: 2273, Month: 12, Day: x},
			{Year: x, Month: x, Day: 1},
			{Year: 2000, Month: x, Day: x},
			{Year: x, Month: 1, Day: x},
			{Year: x, Month: x, Day: x},
		} {
			checkNoDate(t, d)
		}
	}
}

func TestNoDays(t *testing.T) {
	for _, n := range append(extremes(), -1, -2, -7, -365, -366, lastDay+1, lastDay+2, lastDay+365) {
		if got, e := Date(n); got != (api.Date{}) || e != api.ErrArg {
			t.Errorf("P6.1: Date(%d) = %v, %d, want no date, %d", n, got, e, api.ErrArg)
		}
		if got, e := Weekday(n); got != 0 || e != api.ErrArg {
			t.Errorf("P6.2: Weekday(%d) = %d, %d, want 0, %d", n, got, e, api.ErrArg)
		}
	}
}

func TestWeekdayByNumbers(t *testing.T) {
	for n, want := range map[int]int{0: 5, 1: 6, 2: 0, 3: 1, 4: 2, 5: 3, 6: 4, 7: 5, 8: 6, 9: 0, 59: 1, 366: 0, 9999: 1, 99999: 2} {
		if got, e := Weekday(n); got != want || e != api.OK {
			t.Errorf("P6.2: Weekday(%d) = %d, %d, want %d", n, got, e, want)
		}
	}
}

// next is the date behind d, by the chapter's months alone.
func next(d api.Date) api.Date {
	lengths := []int{31, 28, 31, 30, 31, 30, 31, 31, 30, 31, 30, 31}
	if Leap(d.Year) {
		lengths[1] = 29
	}
	switch {
	case d.Day < lengths[d.Month-1]:
		return api.Date{Year: d.Year, Month: d.Month, Day: d.Day + 1}
	case d.Month < 12:
		return api.Date{Year: d.Year, Month: d.Month + 1, Day: 1}
	}
	return api.Date{Year: d.Year + 1, Month: 1, Day: 1}
}

func TestTheNextDayIsTheNextDate(t *testing.T) {
	d := api.Date{Year: 2000, Month: 1, Day: 1}
	for n := range lastDay + 1 {
		got, e := Date(n)
		if got != d || e != api.OK {
			t.Fatalf("P6.3: Date(%d) = %v, %d, want %v", n, got, e, d)
		}
		if back, e := Of(got); back != n || e != api.OK {
			t.Fatalf("P6.3: Of(Date(%d)) = %d, %d", n, back, e)
		}
		d = next(d)
	}
	checkNoDate(t, d)
}
