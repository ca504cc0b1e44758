package date_test

import (
	"math"
	"strings"
	"testing"
	"time"

	"bulletin/api"
	"bulletin/date"
)

// layout is the form of the canonical text for the standard library.
const layout = "Mon, 02 Jan 2006 15:04 -0700"

const days = 73049

// outside are numbers that are not minutes.
func outside() []int {
	return []int{-1, -2, -1440, api.MaxMinute + 1, api.MaxMinute + 2, api.MaxMinute + 1440, 1 << 31, 1 << 32, math.MaxInt64, math.MinInt64, math.MinInt64 + 1}
}

// instant returns a minute as the standard library has it.
func instant(minute int) time.Time {
	return time.Date(2000, 1, 1, 0, minute, 0, 0, time.UTC)
}

// minutesOf returns a few minutes of a day, among them the first and the last one.
func minutesOf(day int) []int {
	return []int{1440 * day, 1440*day + day*7919%1440, 1440*day + 1439}
}

// monday returns the day of the week of a time, counted from Monday.
func monday(t time.Time) int { return (int(t.Weekday()) + 6) % 7 }

func TestP4_1Valid(t *testing.T) {
	for _, minute := range []int{0, 1, 1439, 1440, 14135165, api.MaxMinute - 1, api.MaxMinute} {
		if !date.Valid(minute) {
			t.Errorf("Valid(%d) is false", minute)
		}
	}
	for _, minute := range outside() {
		if date.Valid(minute) {
			t.Errorf("Valid(%d) is true", minute)
		}
	}
}

// TestP4_1EveryDay compares the calendar with that of the standard library.
func TestP4_1EveryDay(t *testing.T) {
	for day := range days {
		for _, minute := range minutesOf(day) {
			at := instant(minute)
			want := date.Civil{Year: at.Year(), Month: int(at.Month()), Day: at.Day(), Hour: at.Hour(), Minute: at.Minute()}
			if c, e := date.ToCivil(minute); c != want || e != api.OK {
				t.Fatalf("ToCivil(%d) = %v, %d, want %v", minute, c, e, want)
			}
			if got, e := date.FromCivil(want); got != minute || e != api.OK {
				t.Fatalf("FromCivil(%v) = %d, %d, want %d", want, got, e, minute)
			}
		}
	}
}

// TestP4_1EveryMinute converts every minute of two days with the end of a February between them.
func TestP4_1EveryMinute(t *testing.T) {
	for minute := 59 * 1440; minute < 61*1440; minute++ {
		day, rest := 29, minute-59*1440
		month := 2
		if rest >= 1440 {
			day, month, rest = 1, 3, rest-1440
		}
		want := date.Civil{Year: 2000, Month: month, Day: day, Hour: rest / 60, Minute: rest % 60}
		if c, e := date.ToCivil(minute); c != want || e != api.OK {
			t.Fatalf("ToCivil(%d) = %v, %d, want %v", minute, c, e, want)
		}
		if got, e := date.FromCivil(want); got != minute || e != api.OK {
			t.Fatalf("FromCivil(%v) = %d, %d", want, got, e)
		}
	}
}

func TestP4_1ToCivilErrors(t *testing.T) {
	for _, minute := range outside() {
		if c, e := date.ToCivil(minute); c != (date.Civil{}) || e != api.ErrRange {
			t.Errorf("ToCivil(%d) = %v, %d", minute, c, e)
		}
	}
}

// TestP4_1EveryDayOfMonth checks which days each month has.
func TestP4_1EveryDayOfMonth(t *testing.T) {
	for year := 2000; year <= 2199; year++ {
		for month := 1; month <= 12; month++ {
			for day := -1; day <= 33; day++ {
				want := api.ErrDate
				if at := time.Date(year, time.Month(month), day, 0, 0, 0, 0, time.UTC); at.Day() == day {
					want = api.OK
				}
				minute, e := date.FromCivil(date.Civil{Year: year, Month: month, Day: day})
				if e != want || e != api.OK && minute != 0 {
					t.Fatalf("FromCivil of %d-%d-%d = %d, %d, want %d", year, month, day, minute, e, want)
				}
			}
		}
	}
}

func TestP4_1FromCivilErrors(t *testing.T) {
	const big, small = math.MaxInt64, math.MinInt64
	for _, x := range []struct {
		c date.Civil
		e api.Errno
	}{
		{date.Civil{}, api.ErrRange},
		{date.Civil{1999, 12, 31, 23, 59}, api.ErrRange}, {date.Civil{2200, 1, 1, 0, 0}, api.ErrRange}, {date.Civil{-2026, 1, 1, 0, 0}, api.ErrRange}, {date.Civil{big, 1, 1, 0, 0}, api.ErrRange}, {date.Civil{small, 1, 1, 0, 0}, api.ErrRange},
		{date.Civil{2026, 0, 1, 0, 0}, api.ErrRange}, {date.Civil{2026, 13, 1, 0, 0}, api.ErrRange}, {date.Civil{2026, -1, 1, 0, 0}, api.ErrRange}, {date.Civil{2026, big, 1, 0, 0}, api.ErrRange}, {date.Civil{2026, small, 1, 0, 0}, api.ErrRange},
		{date.Civil{2026, 1, big, 0, 0}, api.ErrDate}, {date.Civil{2026, 1, small, 0, 0}, api.ErrDate}, {date.Civil{2100, 2, 29, 0, 0}, api.ErrDate}, {date.Civil{2026, 11, 31, 0, 0}, api.ErrDate},
		{date.Civil{2026, 11, 6, -1, 0}, api.ErrDate}, {date.Civil{2026, 11, 6, 24, 0}, api.ErrDate}, {date.Civil{2026, 11, 6, big, 0}, api.ErrDate}, {date.Civil{2026, 11, 6, small, 0}, api.ErrDate},
		{date.Civil{2026, 11, 6, 0, -1}, api.ErrDate}, {date.Civil{2026, 11, 6, 0, 60}, api.ErrDate}, {date.Civil{2026, 11, 6, 0, big}, api.ErrDate}, {date.Civil{2026, 11, 6, 0, small}, api.ErrDate},
		{date.Civil{2026, 11, 6, 23, 60}, api.ErrDate}, {date.Civil{2026, 11, 6, 24, 59}, api.ErrDate}, {date.Civil{2199, 12, 31, 24, 0}, api.ErrDate},
		{date.Civil{2200, 2, 30, 24, 60}, api.ErrRange}, {date.Civil{1999, 2, 30, 0, 0}, api.ErrRange}, {date.Civil{2026, 13, 32, 0, 0}, api.ErrRange}, {date.Civil{2026, 0, 0, -1, -1}, api.ErrRange}, {date.Civil{2200, 13, 1, 0, 0}, api.ErrRange},
	} {
		if minute, e := date.FromCivil(x.c); minute != 0 || e != x.e {
			t.Errorf("FromCivil(%v) = %d, %d, want %d", x.c, minute, e, x.e)
		}
	}
	for minute, c := range map[int]date.Civil{0: {2000, 1, 1, 0, 0}, api.MaxMinute: {2199, 12, 31, 23, 59}, 14135165: {2026, 11, 16, 2, 5}} {
		if got, e := date.FromCivil(c); got != minute || e != api.OK {
			t.Errorf("FromCivil(%v) = %d, %d, want %d", c, got, e, minute)
		}
	}
}

// TestP4_2EveryDay compares the days with those of the standard library.
func TestP4_2EveryDay(t *testing.T) {
	for day := range days {
		for _, minute := range minutesOf(day) {
			if got, e := date.Day(minute); got != day || e != api.OK {
				t.Fatalf("Day(%d) = %d, %d, want %d", minute, got, e, day)
			}
			if got, e := date.Weekday(minute); got != monday(instant(minute)) || e != api.OK {
				t.Fatalf("Weekday(%d) = %d, %d, want %d", minute, got, e, monday(instant(minute)))
			}
		}
		want := instant(1440 * day).Format("2006-01-02")
		if got, e := date.FormatDay(day); got != want || e != api.OK {
			t.Fatalf("FormatDay(%d) = %q, %d, want %q", day, got, e, want)
		}
	}
}

func TestP4_2Known(t *testing.T) {
	for day, x := range map[int]struct {
		text    string
		weekday int
	}{0: {"2000-01-01", 5}, 1: {"2000-01-02", 6}, 2: {"2000-01-03", 0}, 59: {"2000-02-29", 1}, 60: {"2000-03-01", 2}, 9806: {"2026-11-06", 4}, 9816: {"2026-11-16", 0}, 36583: {"2100-02-28", 6}, 36584: {"2100-03-01", 0}, 73048: {"2199-12-31", 1}} {
		if got, e := date.FormatDay(day); got != x.text || e != api.OK {
			t.Errorf("FormatDay(%d) = %q, %d, want %q", day, got, e, x.text)
		}
		if got, e := date.Weekday(1440*day + 1439); got != x.weekday || e != api.OK {
			t.Errorf("Weekday of the day %d = %d, %d, want %d", day, got, e, x.weekday)
		}
	}
}

func TestP4_2Errors(t *testing.T) {
	for _, minute := range outside() {
		if n, e := date.Weekday(minute); n != 0 || e != api.ErrRange {
			t.Errorf("Weekday(%d) = %d, %d", minute, n, e)
		}
		if n, e := date.Day(minute); n != 0 || e != api.ErrRange {
			t.Errorf("Day(%d) = %d, %d", minute, n, e)
		}
	}
	for _, day := range []int{-1, -1440, 73049, 73050, api.MaxMinute, math.MaxInt64, math.MinInt64} {
		if s, e := date.FormatDay(day); s != "" || e != api.ErrRange {
			t.Errorf("FormatDay(%d) = %q, %d", day, s, e)
		}
	}
}

// TestP4_3EveryDay compares the canonical texts with those that the standard library prints.
func TestP4_3EveryDay(t *testing.T) {
	for day := range days {
		minute := minutesOf(day)[1]
		want := instant(minute).Format(layout)
		if got, e := date.Format(minute); got != want || e != api.OK {
			t.Fatalf("Format(%d) = %q, %d, want %q", minute, got, e, want)
		}
	}
}

func TestP4_3Known(t *testing.T) {
	for minute, want := range map[int]string{
		0: "Sat, 01 Jan 2000 00:00 +0000", 14135165: "Mon, 16 Nov 2026 02:05 +0000", api.MaxMinute: "Tue, 31 Dec 2199 23:59 +0000", 9806*1440 + 605: "Fri, 06 Nov 2026 10:05 +0000",
	} {
		if got, e := date.Format(minute); got != want || e != api.OK {
			t.Errorf("Format(%d) = %q, %d, want %q", minute, got, e, want)
		}
	}
	for offset, want := range map[int]string{
		90: "Mon, 16 Nov 2026 03:35 +0130", -300: "Sun, 15 Nov 2026 21:05 -0500", 0: "Mon, 16 Nov 2026 02:05 +0000", -1: "Mon, 16 Nov 2026 02:04 -0001", 1: "Mon, 16 Nov 2026 02:06 +0001",
		-125: "Mon, 16 Nov 2026 00:00 -0205", -126: "Sun, 15 Nov 2026 23:59 -0206", 840: "Mon, 16 Nov 2026 16:05 +1400", -840: "Sun, 15 Nov 2026 12:05 -1400", 60: "Mon, 16 Nov 2026 03:05 +0100", -59: "Mon, 16 Nov 2026 01:06 -0059",
	} {
		if got, e := date.FormatZone(14135165, offset); got != want || e != api.OK {
			t.Errorf("FormatZone with %d = %q, %d, want %q", offset, got, e, want)
		}
	}
}

// TestP4_3EveryZone checks every offset for minutes in the middle and at both ends of the calendar.
func TestP4_3EveryZone(t *testing.T) {
	for offset := -840; offset <= 840; offset++ {
		for _, minute := range []int{0, 1, 400, 840, 1440, 59*1440 + 700, 14135165, api.MaxMinute - 840, api.MaxMinute - 400, api.MaxMinute - 1, api.MaxMinute} {
			want, wantError := "", api.ErrRange
			if 0 <= minute+offset && minute+offset <= api.MaxMinute {
				want, wantError = instant(minute).In(time.FixedZone("", 60*offset)).Format(layout), api.OK
			}
			if got, e := date.FormatZone(minute, offset); got != want || e != wantError {
				t.Fatalf("FormatZone(%d, %d) = %q, %d, want %q, %d", minute, offset, got, e, want, wantError)
			}
		}
	}
}

func TestP4_3Errors(t *testing.T) {
	for _, minute := range outside() {
		if s, e := date.Format(minute); s != "" || e != api.ErrRange {
			t.Errorf("Format(%d) = %q, %d", minute, s, e)
		}
		for _, offset := range []int{0, 1, -1, 840, -840, 841, math.MaxInt64, math.MinInt64} {
			if s, e := date.FormatZone(minute, offset); s != "" || e != api.ErrRange {
				t.Errorf("FormatZone(%d, %d) = %q, %d", minute, offset, s, e)
			}
		}
	}
	for _, offset := range []int{841, -841, 1000, -1000, 1440, math.MaxInt64, math.MinInt64, math.MaxInt64 - 14135165} {
		if s, e := date.FormatZone(14135165, offset); s != "" || e != api.ErrRange {
			t.Errorf("FormatZone with %d = %q, %d", offset, s, e)
		}
	}
}

// TestP4_6OneByte puts each byte at each place of some canonical texts.
func TestP4_6OneByte(t *testing.T) {
	for _, minute := range []int{0, 59*1440 + 605, 14135165, api.MaxMinute} {
		text := instant(minute).Format(layout)
		if !date.IsCanonical(text) {
			t.Errorf("IsCanonical(%q) is false", text)
		}
		for place := range text {
			for i := range 256 {
				s := text[:place] + string([]byte{byte(i)}) + text[place+1:]
				at, err := time.Parse(layout, s)
				want := err == nil && at.Year() >= 2000 && at.Year() <= 2199 && at.UTC().Format(layout) == s
				if got := date.IsCanonical(s); got != want {
					t.Fatalf("IsCanonical(%q) = %v", s, got)
				}
			}
		}
	}
}

func TestP4_6Canonical(t *testing.T) {
	for day := range days {
		if s := instant(minutesOf(day)[1]).Format(layout); !date.IsCanonical(s) {
			t.Fatalf("IsCanonical(%q) is false", s)
		}
	}
	text := "Fri, 06 Nov 2026 10:05 +0000"
	if !date.IsCanonical(text) {
		t.Errorf("IsCanonical(%q) is false", text)
	}
	for _, s := range []string{
		"", "x", text[:27], text[1:], text + " ", " " + text, text + text, text + "\n", "06 Nov 2026 10:05 +0000", "Fri, 6 Nov 2026 10:05 +0000", "Fri,06 Nov 2026 10:05 +0000", "Fri,  06 Nov 2026 10:05 +0000", "Fri,\t06 Nov 2026 10:05 +0000",
		"Fri, 06  Nov 2026 10:05 +0000", "Fri, 06 Nov  2026 10:05 +0000", "Fri, 06 Nov 2026  10:05 +0000", "Fri, 06 Nov 2026 10:05  +0000", "Fri, 06 Nov 2026 10:05\t+0000", "fri, 06 Nov 2026 10:05 +0000", "FRI, 06 Nov 2026 10:05 +0000", "Fri, 06 nov 2026 10:05 +0000", "Fri, 06 NOV 2026 10:05 +0000",
		"Fri, 06 Nov 2026 10:05:00 +0000", "Fri, 06 Nov 2026 10:05 -0000", "Fri, 06 Nov 2026 10:05 GMT", "Fri, 06 Nov 2026 10:05 UTC", "Fri, 06 Nov 2026 10:05 Z", "Fri, 06 Nov 2026 11:05 +0100", "Thu, 06 Nov 2026 10:05 +0000", "Fri, 31 Dec 1999 23:59 +0000", "Wed, 01 Jan 2200 00:00 +0000",
		"Fri, 31 Nov 2026 10:05 +0000", strings.Repeat("0", 65), text + strings.Repeat(" ", 65),
	} {
		if date.IsCanonical(s) {
			t.Errorf("IsCanonical(%q) is true", s)
		}
	}
}

// TestP4_7Order checks that the calendar keeps the order of the minutes.
func TestP4_7Order(t *testing.T) {
	var last date.Civil
	for minute := 0; minute <= api.MaxMinute; minute += 997 {
		c, _ := date.ToCivil(minute)
		later := c.Year > last.Year
		if c.Year == last.Year {
			later = ((c.Month*31+c.Day)*24+c.Hour)*60+c.Minute > ((last.Month*31+last.Day)*24+last.Hour)*60+last.Minute
		}
		if !later {
			t.Fatalf("%v is not later than %v", c, last)
		}
		last = c
	}
}
