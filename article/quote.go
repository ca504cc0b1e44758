package article

import (
	"strings"

	"bulletin/api"
)

const (
	quotationMark = ">"
	space         = " "
)

// divider is the line between a text and the signature lines at its end.
const divider = "-- "

// edit returns the lines that a function makes of those of a body, without those that it does not keep.
func edit(body string, change func(line string) (changed string, kept bool)) string {
	var text strings.Builder
	for _, line := range Lines(body) {
		if changed, kept := change(line); kept {
			text.WriteString(changed + lineFeed)
		}
	}
	return text.String()
}

// quotedLine returns the quoted line of a line.
func quotedLine(line string) string {
	if level, _ := Level(line); level > 0 || line == "" {
		return quotationMark + line
	}
	return quotationMark + space + line
}

// Quote returns a body with each line quoted, Level the number of quotation marks of a line, and Strip the body without the lines of at least a level.
func Quote(body string) (string, api.Errno) {
	if _, e := CheckBody(body); e != api.OK {
		return "", e
	}
	longest := 0
	quoted := edit(body, func(line string) (string, bool) {
		line = quotedLine(line)
		longest = max(longest, len(line))
		return line, true
	})
	if longest > api.MaxLine || len(quoted) > api.MaxArticle {
		return "", api.ErrLong
	}
	return quoted, api.OK
}

func Level(line string) (level int, rest string) {
	rest = strings.TrimLeft(line, quotationMark)
	level = len(line) - len(rest)
	if level > 0 {
		rest = strings.TrimPrefix(rest, space)
	}
	return level, strings.Clone(rest)
}

func Strip(body string, level int) (string, api.Errno) {
	if level < 1 {
		return "", api.ErrRange
	}
	if _, e := CheckBody(body); e != api.OK {
		return "", e
	}
	stripped := edit(body, func(line string) (string, bool) {
		depth, _ := Level(line)
		return line, depth < level
	})
	return stripped, api.OK
}

// Divide separates a body from the signature lines at its end.
func Divide(body string) (text, signature string) {
	begin, end, at := len(body), len(body), 0 // of the divider, and of the line
	for _, line := range Lines(body) {
		next := min(at+len(line)+len(lineFeed), len(body)) // nothing need end the last line
		if line == divider {
			begin, end = at, next
		}
		at = next
	}
	return strings.Clone(body[:begin]), strings.Clone(body[end:])
}
