package control

import (
	"strconv"
	"strings"

	"bulletin/api"
	"bulletin/msgid"
	"bulletin/signer"
)

const (
	space = " "
	comma = ","
)

// The words that tell whether a group is moderated.
const (
	open      = "open"
	moderated = "moderated"
)

// maxParsed is the maximum number of bytes of a text that is parsed.
const maxParsed = 1000

// maxDigits is the maximum number of digits of a number.
const maxDigits = 7

// printers returns, by the first words of the kinds, functions that return the other words of a command.
func printers() map[string]func(c Command) []string {
	return map[string]func(c Command) []string{
		kindNames[Cancel]:  func(c Command) []string { return []string{msgid.Print(c.Target)} },
		kindNames[Approve]: func(c Command) []string { return []string{msgid.Print(c.Target), c.Group} },
		kindNames[Define]:  printDefinition,
		kindNames[Remove]:  func(c Command) []string { return []string{c.Group, strconv.Itoa(c.Version)} },
		kindNames[Rekey]: func(c Command) []string {
			public, _ := signer.PublicText(c.Public) // it has been checked
			return []string{strconv.Itoa(c.Number), public}
		},
	}
}

// printDefinition returns the words of a definition after the first one.
func printDefinition(c Command) []string {
	words := []string{c.Group, strconv.Itoa(c.Version)}
	if c.Moderated {
		var authors []string
		for _, a := range c.Moderators {
			authors = append(authors, AuthorText(a))
		}
		words = append(words, moderated, strings.Join(authors, comma))
	} else {
		words = append(words, open)
	}
	if c.Text != "" {
		words = append(words, c.Text)
	}
	return words
}

// readers returns, by the first words of the kinds, functions that read the other words of a command in their order.
func readers() map[string]func(w *words) Command {
	return map[string]func(w *words) Command{
		kindNames[Cancel]: func(w *words) Command { return Command{Kind: Cancel, Target: w.target()} },
		kindNames[Approve]: func(w *words) Command {
			return Command{Kind: Approve, Target: w.target(), Group: w.group()}
		},
		kindNames[Define]: readDefinition,
		kindNames[Remove]: func(w *words) Command {
			return Command{Kind: Remove, Group: w.group(), Version: w.number(checkVersion)}
		},
		kindNames[Rekey]: func(w *words) Command {
			return Command{Kind: Rekey, Number: w.number(checkNumber), Public: w.public()}
		},
	}
}

func readDefinition(w *words) Command {
	c := Command{Kind: Define, Group: w.group(), Version: w.number(checkVersion), Moderated: w.isModerated()}
	if c.Moderated {
		c.Moderators = w.moderators()
	}
	c.Text = w.rest()
	return c
}

// Print returns the text of a command, and Parse the command of a text, or the offset of the first error and its kind.
func Print(c Command) (string, api.Errno) {
	if e := c.Check(); e != api.OK {
		return "", e
	}
	name := KindName(c.Kind)
	words := append([]string{name}, printers()[name](c)...)
	return strings.Join(words, space), api.OK
}

func Parse(s string) (c Command, at int, e api.Errno) {
	if len(s) > maxParsed {
		return Command{}, 0, api.ErrLong
	}
	w := words{text: s}
	read, known := readers()[w.word()]
	if !known {
		return Command{}, 0, api.ErrKind
	}
	c = read(&w)
	if at, e := w.end(); e != api.OK {
		return Command{}, at, e
	}
	return c, 0, api.OK
}
