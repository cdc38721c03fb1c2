package lex

import (
	"strings"

	"vertex/api"
)

// nameBytes are all bytes that a name may have.
const nameBytes = "ABCDEFGHIJKLMNOPQRSTUVWXYZabcdefghijklmnopqrstuvwxyz" + digits + "!\"#$%&(),.;?@_'`{}~"

// words: of a pair a blank, which no name has, stands for its gap.
var words = [...]struct {
	text string
	word int
}{
	{"max", api.WMax}, {"maximize", api.WMax}, {"maximise", api.WMax}, {"maximum", api.WMax},
	{"min", api.WMin}, {"minimize", api.WMin}, {"minimise", api.WMin}, {"minimum", api.WMin},
	{"st", api.WSubject}, {"s.t.", api.WSubject}, {"st.", api.WSubject}, {"subject to", api.WSubject}, {"such that", api.WSubject},
	{"bounds", api.WBounds}, {"bound", api.WBounds},
	{"general", api.WWhole}, {"generals", api.WWhole}, {"gen", api.WWhole}, {"integer", api.WWhole}, {"integers", api.WWhole}, {"int", api.WWhole},
	{"binary", api.WBinary}, {"binaries", api.WBinary}, {"bin", api.WBinary},
	{"free", api.WFree},
	{"infinity", api.WInf}, {"inf", api.WInf},
	{"end", api.WEnd},
}

// Legal tells whether a text may be a name: P5.1.
func Legal(name string) bool {
	if name == "" || beginsNumber(name) || lead(name, nameBytes) < len(name) {
		return false
	}
	return Word(name) == 0 && !isHalf(name)
}

// isHalf tells whether a name is one of the two of a pair.
func isHalf(name string) bool {
	for _, w := range words {
		first, second, two := strings.Cut(w.text, " ")
		if two && (strings.EqualFold(name, first) || strings.EqualFold(name, second)) {
			return true
		}
	}
	return false
}

// Word tells which word of the language a text is; 0: none: P5.2.
func Word(s string) int {
	first := lead(s, nameBytes)
	if first == len(s) {
		return look(s)
	}
	second := s[first+gap(s[first:]):]
	if lead(second, nameBytes) < len(second) {
		return 0
	}
	return look(s[:first] + " " + second)
}

// look finds a word in the table, letters great or small. It is asked of name's bytes and a blank alone, as EqualFold takes two signs beyond them for a k and an s.
func look(text string) int {
	for _, w := range words {
		if strings.EqualFold(text, w.text) {
			return w.word
		}
	}
	return 0
}

// readName reads the name or the word at the beginning of a text.
func readName(s string) api.Token {
	name := s[:lead(s, nameBytes)]
	for _, text := range [...]string{name, s[:pair(s)]} {
		if w := Word(text); w != 0 && !colonFollows(s[len(text):]) {
			return api.Token{Kind: api.TWord, Text: text, Word: w}
		}
	}
	return api.Token{Kind: api.TName, Text: name}
}

// pair tells how long the name's bytes at the beginning of a text, the gap there and the name's bytes behind it are together.
func pair(s string) int {
	n := lead(s, nameBytes)
	n += gap(s[n:])
	return n + lead(s[n:], nameBytes)
}

// colonFollows tells whether the next byte that is in no gap is a colon, which makes a name of a word.
func colonFollows(s string) bool { return strings.HasPrefix(s[gap(s):], ":") }
