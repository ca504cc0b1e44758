package date

import (
	"slices"
	"strconv"

	"bulletin/api"
)

// nameLength is the length of the name of each day and month.
const nameLength = 3

// zoneNames returns the offsets of the zones that have names.
func zoneNames() map[string]int {
	return map[string]int{
		"UT": 0, "UTC": 0, "GMT": 0, "Z": 0,
		"EST": -300, "EDT": -240, "CST": -360, "CDT": -300,
		"MST": -420, "MDT": -360, "PST": -480, "PDT": -420,
	}
}

func isDigit(c byte) bool { return '0' <= c && c <= '9' }

func isSmall(c byte) bool { return 'a' <= c && c <= 'z' }

func isLetter(c byte) bool { return isSmall(c) || 'A' <= c && c <= 'Z' }

func isBlank(c byte) bool { return c == ' ' || c == '\t' }

func isColon(c byte) bool { return c == ':' }

func isComma(c byte) bool { return c == ',' }

func isSign(c byte) bool { return c == '+' || c == '-' }

// capitals returns a text whose small letters are replaced by capital ones.
//
// The functions of package strings are of no use here: they know more letters, some of which they take for letters of ASCII.
func capitals(s string) string {
	b := []byte(s)
	for i, c := range b {
		if isSmall(c) {
			b[i] = c - ('a' - 'A')
		}
	}
	return string(b)
}

// scanner reads the parts of a text in their order. Its methods do nothing after the first error.
type scanner struct {
	text string
	at   int       // the offset of the next byte, or that of the first error
	e    api.Errno // the first error
}

// part is a part of a text: what it says, and where it begins.
type part struct{ value, at int }

// step reads something unless there was an error. The function receives the rest of the text; it returns how many bytes it has read, or how far away an error is, and its kind.
func (s *scanner) step(read func(rest string) (int, api.Errno)) {
	if s.e != api.OK {
		return
	}
	n, e := read(s.text[s.at:])
	s.at, s.e = s.at+n, e
}

// sees reports whether a byte of a class comes next.
func (s *scanner) sees(class func(byte) bool) bool {
	return s.e == api.OK && s.at < len(s.text) && class(s.text[s.at])
}

// take reads a byte of a class.
func (s *scanner) take(class func(byte) bool) {
	s.step(func(rest string) (int, api.Errno) {
		switch {
		case rest == "":
			return 0, api.ErrShort
		case !class(rest[0]):
			return 0, api.ErrFormat
		}
		return 1, api.OK
	})
}

// skip reads blanks if there are any, and blanks reads at least one.
func (s *scanner) skip() {
	for s.sees(isBlank) {
		s.take(isBlank)
	}
}

func (s *scanner) blanks() {
	s.take(isBlank)
	s.skip()
}

// number reads a number of so many digits.
func (s *scanner) number(digits int) part {
	from := s.at
	for range digits {
		s.take(isDigit)
	}
	value, _ := strconv.Atoi(s.text[from:s.at]) // after an error, the value does not matter
	return part{value, from}
}

// dayOfMonth reads a number of one digit or two.
func (s *scanner) dayOfMonth() part {
	day := s.number(1)
	if s.sees(isDigit) {
		day.value = 10*day.value + s.number(1).value
	}
	return day
}

// name reads one of some names; its value is the index of the name.
func (s *scanner) name(names []string) part {
	found := part{at: s.at}
	s.step(func(rest string) (int, api.Errno) {
		if len(rest) < nameLength {
			return len(rest), api.ErrShort
		}
		wanted := capitals(rest[:nameLength])
		found.value = slices.IndexFunc(names, func(name string) bool { return capitals(name) == wanted })
		if found.value < 0 {
			return 0, api.ErrFormat
		}
		return nameLength, api.OK
	})
	return found
}

// zone reads a zone, which extends to the end of the text.
func (s *scanner) zone() part {
	found := part{at: s.at}
	s.step(func(rest string) (int, api.Errno) {
		if rest == "" {
			return 0, api.ErrShort
		}
		offset, e := Zone(rest)
		if e != api.OK {
			return 0, e
		}
		found.value = offset
		return len(rest), api.OK
	})
	return found
}

// Zone returns the offset of a zone in minutes east of UTC.
func Zone(s string) (int, api.Errno) {
	if offset, ok := zoneNames()[capitals(s)]; ok {
		return offset, api.OK
	}
	scan := &scanner{text: s}
	scan.take(isSign)
	hours, minutes := scan.number(2).value, scan.number(2).value
	if scan.e != api.OK || scan.at < len(s) || !isMinuteOfHour(minutes) {
		return 0, api.ErrFormat
	}
	size := hours*60 + minutes
	switch {
	case size > MaxZone:
		return 0, api.ErrRange
	case s[0] == '-':
		return -size, api.OK
	}
	return size, api.OK
}

// parts are the parts of the text of a date. The value of the day of the week is -1 if it is not there; months are counted from 0.
type parts struct {
	weekday, day, month, year, hour, minute, second, zone part
}

// read reads all parts.
func (s *scanner) read() parts {
	weekdays, months := weekdayNames(), monthNames()
	p := parts{weekday: part{value: -1}}
	if s.sees(isLetter) {
		p.weekday = s.name(weekdays[:])
		s.take(isComma)
		s.skip()
	}
	p.day = s.dayOfMonth()
	s.blanks()
	p.month = s.name(months[:])
	s.blanks()
	p.year = s.number(4)
	s.blanks()
	p.hour = s.number(2)
	s.take(isColon)
	p.minute = s.number(2)
	if s.sees(isColon) {
		s.take(isColon)
		p.second = s.number(2)
	}
	s.blanks()
	p.zone = s.zone()
	return p
}

// value returns the minute of parts that were read without an error, or the offset of the first of them that is not possible.
func (p parts) value() (int, int, api.Errno) {
	switch {
	case !isYear(p.year.value):
		return 0, p.year.at, api.ErrRange
	case !hasDay(p.year.value, p.month.value+1, p.day.value):
		return 0, p.day.at, api.ErrDate
	case !isHour(p.hour.value):
		return 0, p.hour.at, api.ErrDate
	case !isMinuteOfHour(p.minute.value):
		return 0, p.minute.at, api.ErrDate
	case p.second.value > 60: // 60 is a leap second
		return 0, p.second.at, api.ErrDate
	}
	local := minuteOf(Civil{p.year.value, p.month.value + 1, p.day.value, p.hour.value, p.minute.value})
	minute := local - p.zone.value
	switch {
	case p.weekday.value >= 0 && p.weekday.value != weekdayOf(local):
		return 0, 0, api.ErrDate
	case !Valid(minute):
		return 0, 0, api.ErrRange
	}
	return minute, 0, api.OK
}

// Parse returns the minute of a text, or the offset of the first error and its kind.
func Parse(s string) (minute int, at int, e api.Errno) {
	if len(s) > MaxText {
		return 0, MaxText, api.ErrLong
	}
	scan := &scanner{text: s}
	p := scan.read()
	if scan.e != api.OK {
		return 0, scan.at, scan.e
	}
	return p.value()
}
