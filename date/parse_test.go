package date_test

import (
	"regexp"
	"slices"
	"strconv"
	"strings"
	"testing"
	"time"

	"bulletin/api"
	"bulletin/date"
)

// sample is 2026-11-16 02:05, and minuteOfSample its value.
const (
	sample         = "Mon, 16 Nov 2026 02:05:07 +0000"
	minuteOfSample = 14135165
)

// zoneNames are the zones with names, from the document.
func zoneNames() map[string]int {
	return map[string]int{"UT": 0, "UTC": 0, "GMT": 0, "Z": 0, "EST": -300, "EDT": -240, "CST": -360, "CDT": -300, "MST": -420, "MDT": -360, "PST": -480, "PDT": -420}
}

// spellings returns a name with each choice of capital and small letters.
func spellings(name string) []string {
	all := []string{""}
	for _, c := range strings.Split(name, "") {
		var longer []string
		for _, s := range all {
			longer = append(longer, s+strings.ToLower(c), s+strings.ToUpper(c))
		}
		all = longer
	}
	return all
}

// expect checks what Parse returns.
func expect(t *testing.T, s string, minute, at int, e api.Errno) {
	t.Helper()
	if m, a, err := date.Parse(s); m != minute || a != at || err != e {
		t.Errorf("Parse(%q) = %d, %d, %d, want %d, %d, %d", s, m, a, err, minute, at, e)
	}
}

func TestP4_4Names(t *testing.T) {
	for name, offset := range zoneNames() {
		for _, s := range spellings(name) {
			if got, e := date.Zone(s); got != offset || e != api.OK {
				t.Errorf("Zone(%q) = %d, %d, want %d", s, got, e, offset)
			}
		}
	}
}

// TestP4_4Numbers checks every text of a sign and four digits.
func TestP4_4Numbers(t *testing.T) {
	for n := range 10000 {
		digits := strconv.Itoa(10000 + n)[1:]
		size, want := n/100*60+n%100, api.OK
		if n%100 > 59 {
			size, want = 0, api.ErrFormat
		} else if size > 840 {
			size, want = 0, api.ErrRange
		}
		if got, e := date.Zone("+" + digits); got != size || e != want {
			t.Fatalf("Zone(+%s) = %d, %d, want %d, %d", digits, got, e, size, want)
		}
		if got, e := date.Zone("-" + digits); got != -size || e != want {
			t.Fatalf("Zone(-%s) = %d, %d, want %d, %d", digits, got, e, -size, want)
		}
	}
}

// TestP4_4OneByte puts each byte at each place of some zones.
func TestP4_4OneByte(t *testing.T) {
	number := regexp.MustCompile(`^[+-][0-9][0-9][0-5][0-9]$`)
	for _, zone := range []string{"+0130", "-1059", "Z", "UT", "EST", "pdt"} {
		for place := range zone {
			for i := range 256 {
				s := zone[:place] + string([]byte{byte(i)}) + zone[place+1:]
				_, named := zoneNames()[strings.ToUpper(s)]
				want := api.ErrFormat
				if named || number.MatchString(s) && s[1:] <= "1400" {
					want = api.OK
				} else if number.MatchString(s) {
					want = api.ErrRange
				}
				if offset, e := date.Zone(s); e != want || e != api.OK && offset != 0 {
					t.Fatalf("Zone(%q) = %d, %d, want %d", s, offset, e, want)
				}
			}
		}
	}
}

func TestP4_4Errors(t *testing.T) {
	for _, s := range []string{
		"", "+", "-", "+0", "+00", "+000", "+00000", "-00000", "0000", "00000", "+00:00", "+0060", "-0099", "+1360", "+9960", " +0000", "+0000 ", "+ 000", "++000", "+-000", "+0000\n", "+0x10", "+1e10", "+1_00",
		"A", "Y", "U", "T", "ZZ", "Z ", " Z", "UTCC", "UTZ", "GM", "GMTT", "ES", "ESTT", "BST", "EST ", "E\u017fT", "e\u017ft", "\u017f", "Z\x00", "GMT+0100", "UTC+0000", "+000\u0660", "\u221200", "Mon", strings.Repeat("+", 1000), "+" + strings.Repeat("0", 1000),
	} {
		if offset, e := date.Zone(s); offset != 0 || e != api.ErrFormat {
			t.Errorf("Zone(%q) = %d, %d", s, offset, e)
		}
	}
	for _, s := range []string{"+1401", "-1401", "+1459", "+1500", "-1500", "+2400", "+9959", "-9959"} {
		if offset, e := date.Zone(s); offset != 0 || e != api.ErrRange {
			t.Errorf("Zone(%q) = %d, %d", s, offset, e)
		}
	}
}

// TestP4_5Values checks texts with a value, in the forms that the document permits.
func TestP4_5Values(t *testing.T) {
	const day = 9806 * 1440 // 2026-11-06, a Friday
	for s, minute := range map[string]int{
		"Mon, 16 Nov 2026 02:05 +0000": 14135165, "mon,16 NOV 2026  02:05:60\tgmt": 14135165, "15 Nov 2026 18:05 PST": 14135165, "Sun,\t \t15 nov 2026 18:05:00 pst": 14135165, "16 Nov 2026 03:35 +0130": 14135165, "MON, 16 \t Nov\t2026 \t03:35  +0130": 14135165, "Mon, 16 Nov 2026 16:05 +1400": 14135165, "Sun, 15 Nov 2026 12:05 -1400": 14135165,
		"Fri, 06 Nov 2026 10:05 +0000": day + 605, "6 Nov 2026 10:05 Z": day + 605, "06 Nov 2026 10:05 Z": day + 605, "Fri,6 Nov 2026 10:05:59 UT": day + 605, "fRI,  6 nOV 2026 10:05:60 uTc": day + 605, "6 Nov 2026 10:05 -0000": day + 605,
		"1 Jan 2000 00:00 Z": 0, "Sat, 01 Jan 2000 00:00:60 Z": 0, "1 Jan 2000 00:01 +0001": 0, "1 Jan 2000 00:00 -0001": 1, "1 Jan 2000 14:00 +1400": 0, "Sat, 1 Jan 2000 05:00 EST": 600,
		"31 Dec 2199 23:59 UT": api.MaxMinute, "Tue, 31 Dec 2199 23:59:60 GMT": api.MaxMinute, "31 Dec 2199 09:59 -1400": api.MaxMinute, "31 Dec 2199 23:59 +0001": api.MaxMinute - 1, "31 Dec 2199 19:59 EDT": api.MaxMinute, "29 Feb 2000 00:00 Z": 59 * 1440, "29 Feb 2000 00:00 +0100": 59*1440 - 60, "1 Mar 2000 00:00 +0100": 60*1440 - 60,
	} {
		expect(t, s, minute, 0, api.OK)
	}
}

// TestP4_5Names checks every spelling of the names of days and months.
func TestP4_5Names(t *testing.T) {
	for day := range 7 {
		at := instant(1440*(9816+day) + 125)
		for _, name := range spellings(at.Format("Mon")) {
			expect(t, name+at.Format(", 02 Jan 2006 15:04 ")+"Z", 1440*(9816+day)+125, 0, api.OK)
		}
	}
	for month := range 12 {
		at := time.Date(2026, time.Month(month+1), 3, 2, 5, 0, 0, time.UTC)
		minute := int(at.Sub(instant(0)) / time.Minute)
		for _, name := range spellings(at.Format("Jan")) {
			expect(t, "3 "+name+" 2026 02:05 Z", minute, 0, api.OK)
		}
	}
}

func TestP4_5Zones(t *testing.T) {
	for name, offset := range zoneNames() {
		for _, s := range spellings(name) {
			expect(t, "16 Nov 2026 02:05 "+s, minuteOfSample-offset, 0, api.OK)
			expect(t, "Mon, 16 Nov 2026 02:05:07\t"+s, minuteOfSample-offset, 0, api.OK)
		}
	}
}

// padded returns the text of a date with so many bytes.
func padded(length int) string {
	return "Mon," + strings.Repeat(" ", length-27) + "16 Nov 2026 02:05 +0000"
}

func TestP4_5Long(t *testing.T) {
	expect(t, padded(63), minuteOfSample, 0, api.OK)
	expect(t, padded(64), minuteOfSample, 0, api.OK)
	for _, s := range []string{padded(65), padded(66), padded(1000), strings.Repeat("x", 65), strings.Repeat("1", 65), strings.Repeat(" ", 65), strings.Repeat("\x00", 65), "31 Nov 1999 25:65 Z" + strings.Repeat(" ", 46), strings.Repeat(sample, 1000)} {
		expect(t, s, 0, 64, api.ErrLong)
	}
	expect(t, strings.Repeat("x", 64), 0, 0, api.ErrFormat)
	expect(t, strings.Repeat("1", 64), 0, 2, api.ErrFormat)
	expect(t, "1"+strings.Repeat(" ", 63), 0, 64, api.ErrShort)
	expect(t, sample+strings.Repeat(" ", 64-len(sample)), 0, 26, api.ErrFormat)
}

// TestP4_5Short cuts texts off at each place.
func TestP4_5Short(t *testing.T) {
	for _, x := range []struct {
		text string
		zone int
	}{{sample, 26}, {"Mon,16 Nov 2026 02:05 +0000", 22}, {"6 nov 2026  02:05\tGMT", 18}, {"06\t\tNOV\t2026 02:05:60  pst", 23}} {
		for n := range x.text {
			if n <= x.zone {
				expect(t, x.text[:n], 0, n, api.ErrShort)
			} else {
				expect(t, x.text[:n], 0, x.zone, api.ErrFormat)
			}
		}
	}
	expect(t, "16 Nov 2026 02:05 UT", minuteOfSample, 0, api.OK) // UTC without its end
}

// TestP4_5OneByte puts each byte at each place of the sample: a byte that is not permitted there is reported where it is, or where its name or zone begins.
func TestP4_5OneByte(t *testing.T) {
	const digits, blanks = "0123456789", " \t"
	for _, x := range []struct {
		place     int
		permitted string
		at        int
	}{
		{0, "Mm" + digits, 0}, {1, "Oo", 0}, {2, "Nn", 0}, {3, ",", 3}, {4, blanks + digits, 4}, {5, digits + blanks, 5}, {6, digits + blanks, 6}, {7, blanks, 7},
		{8, "Nn" + blanks, 8}, {9, "Oo", 8}, {10, "Vv", 8}, {11, blanks, 11}, {12, digits + blanks, 12}, {13, digits, 13}, {14, digits, 14}, {15, digits, 15}, {16, blanks, 16},
		{17, digits + blanks, 17}, {18, digits, 18}, {19, ":", 19}, {20, digits, 20}, {21, digits, 21}, {22, ":" + blanks, 22}, {23, digits, 23}, {24, digits, 24}, {25, blanks, 25},
		{26, "+-" + blanks, 26}, {27, digits, 26}, {28, digits, 26}, {29, digits, 26}, {30, digits, 26},
	} {
		for i := range 256 {
			c := string([]byte{byte(i)})
			if !strings.Contains(x.permitted, c) {
				expect(t, sample[:x.place]+c+sample[x.place+1:], 0, x.at, api.ErrFormat)
			}
		}
	}
}

// TestP4_5Places checks errors that a byte causes at a later place, and the places of optional parts.
func TestP4_5Places(t *testing.T) {
	for _, x := range []struct {
		s  string
		at int
		e  api.Errno
	}{
		{"", 0, api.ErrShort}, {" ", 0, api.ErrFormat}, {"\x00", 0, api.ErrFormat}, {"\xff", 0, api.ErrFormat}, {",", 0, api.ErrFormat}, {"[", 0, api.ErrFormat}, {"@on, ", 0, api.ErrFormat}, {"`on, ", 0, api.ErrFormat}, {"{on, ", 0, api.ErrFormat}, {" Mon, 16 Nov 2026 02:05 Z", 0, api.ErrFormat}, {" 16 Nov 2026 02:05 Z", 0, api.ErrFormat},
		{"M", 1, api.ErrShort}, {"z", 1, api.ErrShort}, {"Zz", 2, api.ErrShort}, {"A1", 2, api.ErrShort}, {"A12", 0, api.ErrFormat}, {"Nov", 0, api.ErrFormat}, {"Moo, 16", 0, api.ErrFormat}, {"\u017fun, 15", 0, api.ErrFormat}, {"S\u017f", 0, api.ErrFormat},
		{"Mon", 3, api.ErrShort}, {"Mon 16", 3, api.ErrFormat}, {"Mon ,16", 3, api.ErrFormat}, {"Monday, 16", 3, api.ErrFormat}, {"Mon;", 3, api.ErrFormat}, {"Mon,", 4, api.ErrShort}, {"Mon, ", 5, api.ErrShort}, {"Mon,, 16", 4, api.ErrFormat}, {"Mon,Nov", 4, api.ErrFormat}, {"Mon, \t Nov", 7, api.ErrFormat}, {"Mon,\n16", 4, api.ErrFormat}, {"Mon, -1", 5, api.ErrFormat},
		{"1", 1, api.ErrShort}, {"16", 2, api.ErrShort}, {"1 ", 2, api.ErrShort}, {"16 ", 3, api.ErrShort}, {"116 Nov", 2, api.ErrFormat}, {"016 Nov", 2, api.ErrFormat}, {"1Nov", 1, api.ErrFormat}, {"16Nov", 2, api.ErrFormat}, {"1,", 1, api.ErrFormat}, {"16-Nov", 2, api.ErrFormat}, {"1/", 1, api.ErrFormat}, {"1:", 1, api.ErrFormat},
		{"16 N", 4, api.ErrShort}, {"16 No", 5, api.ErrShort}, {"16 xx", 5, api.ErrShort}, {"16 11", 5, api.ErrShort}, {"16 xxx", 3, api.ErrFormat}, {"16 Mon", 3, api.ErrFormat}, {"16  11 2026", 4, api.ErrFormat}, {"16 Nov", 6, api.ErrShort}, {"16 November", 6, api.ErrFormat}, {"16 Nov,", 6, api.ErrFormat}, {"16 Nov ", 7, api.ErrShort}, {"16 \u017fep 2026", 3, api.ErrFormat},
		{"16 Nov 26 ", 9, api.ErrFormat}, {"16 Nov 2026", 11, api.ErrShort}, {"16 Nov 202", 10, api.ErrShort}, {"16 Nov 20260 ", 11, api.ErrFormat}, {"16 Nov +2026", 7, api.ErrFormat}, {"16 Nov -026", 7, api.ErrFormat}, {"16 Nov 2026, ", 11, api.ErrFormat}, {"16 Nov 2026 ", 12, api.ErrShort}, {"16 Nov 1999", 11, api.ErrShort}, {"99 Nov 0000", 11, api.ErrShort},
		{"16 nov 2026 3:35 +0130", 13, api.ErrFormat}, {"16 Nov 2026 003:35 Z", 14, api.ErrFormat}, {"16 Nov 2026 03:5 Z", 16, api.ErrFormat}, {"16 Nov 2026 03 :05 Z", 14, api.ErrFormat}, {"16 Nov 2026 03: 05 Z", 15, api.ErrFormat}, {"16 Nov 2026 03.05 Z", 14, api.ErrFormat}, {"16 Nov 2026 Z", 12, api.ErrFormat},
		{"16 Nov 2026 02:05", 17, api.ErrShort}, {"16 Nov 2026 02:05Z", 17, api.ErrFormat}, {"16 Nov 2026 02:055 Z", 17, api.ErrFormat}, {"16 Nov 2026 02:05+0000", 17, api.ErrFormat}, {"16 Nov 2026 02:05:", 18, api.ErrShort}, {"16 Nov 2026 02:05: Z", 18, api.ErrFormat}, {"16 Nov 2026 02:05:7 Z", 19, api.ErrFormat}, {"16 Nov 2026 02:05:7", 19, api.ErrShort}, {"16 Nov 2026 02:05:07", 20, api.ErrShort}, {"16 Nov 2026 02:05:007 Z", 20, api.ErrFormat}, {"16 Nov 2026 02:05:07.5 Z", 20, api.ErrFormat}, {"16 Nov 2026 02:05:07:00 Z", 20, api.ErrFormat}, {"16 Nov 2026 02:05:07Z", 20, api.ErrFormat}, {"16 Nov 2026 02:05 :07 Z", 18, api.ErrFormat},
		{"16 Nov 2026 02:05 ", 18, api.ErrShort}, {"16 Nov 2026 02:05 \t ", 20, api.ErrShort}, {"16 Nov 2026 02:05:07 ", 21, api.ErrShort}, {"16 Nov 2026 02:05 Z ", 18, api.ErrFormat}, {"16 Nov 2026 02:05 ZZ", 18, api.ErrFormat}, {"16 Nov 2026 02:05 +0000 (UTC)", 18, api.ErrFormat}, {"16 Nov 2026 02:05   ET", 20, api.ErrFormat}, {"16 Nov 2026 02:05 +0160", 18, api.ErrFormat}, {"16 Nov 2026 02:05 +9960", 18, api.ErrFormat},
		{"16 Nov 2026 02:05 +1401", 18, api.ErrRange}, {"16 Nov 2026 02:05  -1401", 19, api.ErrRange}, {"Mon, 16 Nov 2026 02:05:07 -9959", 26, api.ErrRange},
	} {
		expect(t, x.s, 0, x.at, x.e)
	}
}

// TestP4_5Impossible checks parts that are not possible, and that they are reported in their order, after all errors of the form.
func TestP4_5Impossible(t *testing.T) {
	for _, x := range []struct {
		s  string
		at int
		e  api.Errno
	}{
		{"16 Nov 1999 02:05 Z", 7, api.ErrRange}, {"16 Nov 2200 02:05 Z", 7, api.ErrRange}, {"16 Nov 0000 02:05 Z", 7, api.ErrRange}, {"16 Nov 9999 02:05 Z", 7, api.ErrRange}, {"Mon,  6  Nov\t 1999 02:05 Z", 14, api.ErrRange}, {"Fri, 31 Dec 1999 23:59 -0500", 12, api.ErrRange}, {"1 Jan 2200 00:00 +0500", 6, api.ErrRange},
		{"0 Nov 2026 02:05 Z", 0, api.ErrDate}, {"00 Nov 2026 02:05 Z", 0, api.ErrDate}, {"31 Nov 2026 02:05 Z", 0, api.ErrDate}, {"32 Dec 2026 02:05 Z", 0, api.ErrDate}, {"99 Dec 2026 02:05 Z", 0, api.ErrDate}, {"29 Feb 2026 02:05 Z", 0, api.ErrDate}, {"29 Feb 2100 02:05 Z", 0, api.ErrDate}, {"30 Feb 2000 02:05 Z", 0, api.ErrDate}, {"Mon, \t31 Nov 2026 02:05 Z", 6, api.ErrDate},
		{"16 Nov 2026 24:00 Z", 12, api.ErrDate}, {"16 Nov 2026 99:00 Z", 12, api.ErrDate}, {"Mon, 16 Nov 2026 24:05:07 Z", 17, api.ErrDate}, {"16 Nov 2026 23:60 Z", 15, api.ErrDate}, {"16 Nov 2026 02:99 Z", 15, api.ErrDate}, {"Mon, 16 Nov 2026  02:60:07 Z", 21, api.ErrDate}, {"16 Nov 2026 02:05:61 Z", 18, api.ErrDate}, {"16 Nov 2026 02:05:99 Z", 18, api.ErrDate}, {"Mon, 16 Nov 2026 02:05:61 Z", 23, api.ErrDate},
		{"Tue, 16 Nov 2026 02:05 GMT", 0, api.ErrDate}, {"sun,16 Nov 2026 02:05 Z", 0, api.ErrDate}, {"Sun, 16 Nov 2026 02:05 +0300", 0, api.ErrDate}, {"Mon, 15 Nov 2026 21:05 -0500", 0, api.ErrDate},
		{"1 Jan 2000 00:00 +0001", 0, api.ErrRange}, {"Sat, 1 Jan 2000 13:59 +1400", 0, api.ErrRange}, {"31 Dec 2199 23:59 -0001", 0, api.ErrRange}, {"Tue, 31 Dec 2199 19:00 EST", 0, api.ErrRange}, {"31 Dec 2199 10:00:60 -1400", 0, api.ErrRange},
		{"31 Nov 1999 25:65:61 Z", 7, api.ErrRange}, {"Tue, 31 Nov 2026 25:65:61 Z", 5, api.ErrDate}, {"Tue, 30 Nov 2026 25:65:61 Z", 17, api.ErrDate}, {"Tue, 30 Nov 2026 05:65:61 Z", 20, api.ErrDate}, {"Tue, 30 Nov 2026 05:05:61 Z", 23, api.ErrDate}, {"Tue, 30 Nov 2026 05:05:60 Z", 0, api.ErrDate}, {"Sun, 1 Jan 2000 00:00 +0001", 0, api.ErrDate},
		{"Tue, 31 Nov 1999 25:65:61 +0060", 26, api.ErrFormat}, {"Tue, 31 Nov 1999 25:65:61 +1401", 26, api.ErrRange}, {"31 Nov 1999 25:65", 17, api.ErrShort}, {"99 Nov 1999 25:6x", 16, api.ErrFormat},
	} {
		expect(t, x.s, 0, x.at, x.e)
	}
}

// grammar is the form of a text of small letters.
var grammar = regexp.MustCompile(`^(?:(mon|tue|wed|thu|fri|sat|sun),[ \t]*)?([0-9]{1,2})[ \t]+(jan|feb|mar|apr|may|jun|jul|aug|sep|oct|nov|dec)[ \t]+([0-9]{4})[ \t]+([0-9]{2}):([0-9]{2})(?::([0-9]{2}))?[ \t]+((?:[+-][0-9]{2}[0-5][0-9])|utc?|gmt|z|[ecmp][sd]t)$`)

// reference is what Parse returns by the document, for a text of ASCII characters. If the form is wrong, it returns ErrFormat without the offset.
func reference(s string) (int, int, api.Errno) {
	small := strings.ToLower(s)
	places := grammar.FindStringSubmatchIndex(small)
	if places == nil {
		return 0, 0, api.ErrFormat
	}
	at := func(group int) int { return places[2*group] }
	number := func(group int) int {
		if at(group) < 0 {
			return 0
		}
		n, _ := strconv.Atoi(small[at(group):places[2*group+1]])
		return n
	}
	offset, named := zoneNames()[strings.ToUpper(small[at(8):])]
	if !named {
		offset = number(8)/100*60 + number(8)%100
	}
	month, _ := time.Parse("Jan", small[at(3):at(3)+3])
	local := time.Date(number(4), month.Month(), number(2), 0, 0, 0, 0, time.UTC)
	minute := int(local.Unix()/60) - int(instant(0).Unix()/60) + 60*number(5) + number(6) - offset
	weekday := strings.ToLower(local.Format("Mon"))
	switch {
	case offset < -840 || offset > 840:
		return 0, at(8), api.ErrRange
	case number(4) < 2000 || number(4) > 2199:
		return 0, at(4), api.ErrRange
	case local.Day() != number(2):
		return 0, at(2), api.ErrDate
	case number(5) > 23:
		return 0, at(5), api.ErrDate
	case number(6) > 59:
		return 0, at(6), api.ErrDate
	case number(7) > 60:
		return 0, at(7), api.ErrDate
	case at(1) >= 0 && !strings.HasPrefix(small, weekday):
		return 0, 0, api.ErrDate
	case minute < 0 || minute > api.MaxMinute:
		return 0, 0, api.ErrRange
	}
	return minute, 0, api.OK
}

// changes returns the texts that differ from a text in one place.
func changes(s string) []string {
	const characters = "0123456789 \t:,+-.aceosztMNUZ\x00\x7f"
	var all []string
	for place := range len(s) + 1 {
		for _, c := range strings.Split(characters, "") {
			all = append(all, s[:place]+c+s[place:])
			if place < len(s) {
				all = append(all, s[:place]+c+s[place+1:])
			}
		}
		if place < len(s) {
			all = append(all, s[:place]+s[place+1:])
		}
	}
	return all
}

// TestP4_5Reference compares with the reference all texts that differ from some texts in one place, and some that differ in two.
func TestP4_5Reference(t *testing.T) {
	check := func(s string) {
		minute, at, e := date.Parse(s)
		wantMinute, wantAt, want := reference(s)
		if want == api.ErrFormat && (e == api.ErrShort && at == len(s) || e == api.ErrFormat && at >= 0 && at < len(s)) {
			wantAt, want = at, e
		}
		if minute != wantMinute || at != wantAt || e != want {
			t.Fatalf("Parse(%q) = %d, %d, %d, want %d, %d, %d", s, minute, at, e, wantMinute, wantAt, want)
		}
	}
	for _, s := range []string{sample, "29 Feb 2096 23:59 EDT", "Sat,1 Jan 2000 00:00 +0000", "Tue, 31 Dec 2199 23:59:60 Z"} {
		check(s)
		for i, near := range changes(s) {
			check(near)
			if i%31 == 0 {
				for _, far := range changes(near) {
					check(far)
				}
			}
		}
	}
}

// TestP4_5Numbers checks every day of the month, hour, minute and second of two digits, and every year of four digits.
func TestP4_5Numbers(t *testing.T) {
	for n := range 10000 {
		digits := strconv.Itoa(10000 + n)[1:]
		texts := []string{"28 Feb " + digits + " 02:05 Z"}
		if n < 100 {
			two := digits[2:]
			texts = append(texts, two+" Feb 2096 02:05 Z", two+" Apr 2026 02:05 Z", "6 Nov 2026 "+two+":05 Z", "6 Nov 2026 02:"+two+" Z", "6 Nov 2026 02:05:"+two+" Z")
		}
		for _, s := range texts {
			minute, at, e := reference(s)
			expect(t, s, minute, at, e)
		}
	}
}

// TestP1TwoBytes parses every text of at most two bytes: only three of them are zones, and none is a date.
func TestP1TwoBytes(t *testing.T) {
	for i := range 256 {
		one := string([]byte{byte(i)})
		texts := []string{one}
		for j := range 256 {
			texts = append(texts, one+string([]byte{byte(j)}))
		}
		for _, s := range texts {
			want := api.ErrFormat
			if _, named := zoneNames()[strings.ToUpper(s)]; named {
				want = api.OK
			}
			if offset, e := date.Zone(s); offset != 0 || e != want {
				t.Fatalf("Zone(%q) = %d, %d, want %d", s, offset, e, want)
			}
			minute, at, e := date.Parse(s)
			if minute != 0 || e != api.ErrFormat && e != api.ErrShort || (at == len(s)) != (e == api.ErrShort) {
				t.Fatalf("Parse(%q) = %d, %d, %d", s, minute, at, e)
			}
			if date.IsCanonical(s) {
				t.Fatalf("IsCanonical(%q) is true", s)
			}
		}
	}
}

// TestP4_7Inverse checks that Parse is the inverse of Format and FormatZone.
func TestP4_7Inverse(t *testing.T) {
	for day := range days {
		for _, minute := range minutesOf(day) {
			s, _ := date.Format(minute)
			if got, at, e := date.Parse(s); got != minute || at != 0 || e != api.OK {
				t.Fatalf("Parse(%q) = %d, %d, %d, want %d", s, got, at, e, minute)
			}
		}
	}
	for offset := -840; offset <= 840; offset++ {
		for _, minute := range []int{840, 14135165, 59*1440 + 1000, api.MaxMinute - 840} {
			s, e := date.FormatZone(minute, offset)
			if got, at, f := date.Parse(s); e != api.OK || got != minute || at != 0 || f != api.OK {
				t.Fatalf("Parse(%q) = %d, %d, %d, want %d", s, got, at, f, minute)
			}
		}
	}
}

// TestP4_7SameValue checks the forms of a text that have the same value.
func TestP4_7SameValue(t *testing.T) {
	var values []int
	for _, weekday := range []string{"", "Fri,", "Fri, ", "FRI,\t", "fri, \t "} {
		for _, day := range []string{"6 ", "06 ", "6\t", "06 \t "} {
			for _, month := range []string{"Nov ", "NOV\t", "nov  ", "nOv "} {
				for _, second := range []string{"", ":00", ":59", ":60"} {
					for _, zone := range []string{" +0000", "\t-0000", "  gmt", " Z"} {
						s := weekday + day + month + "2026 10:05" + second + zone
						minute, at, e := date.Parse(s)
						if at != 0 || e != api.OK {
							t.Fatalf("Parse(%q) = %d, %d, %d", s, minute, at, e)
						}
						values = append(values, minute)
					}
				}
			}
		}
	}
	if all := slices.Compact(values); len(all) != 1 || all[0] != 9806*1440+605 {
		t.Errorf("the values are %v", all)
	}
}
