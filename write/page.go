package write

import "strings"

// page is a text as it grows. The builder is embedded, so that its own methods put onto the page what those below part into lines.
type page struct{ strings.Builder }

// line puts down words, a blank between each two, and ends the line.
func (text *page) line(words ...string) {
	for i, word := range words {
		if i > 0 {
			text.WriteByte(' ')
		}
		text.WriteString(word)
	}
	text.WriteByte('\n')
}

// setIn puts down a line that begins with a blank.
func (text *page) setIn(words ...string) {
	text.WriteByte(' ')
	text.line(words...)
}

// section puts down a section with its lines; none of it, if there are no lines.
func (text *page) section(word string, lines []string) {
	if len(lines) == 0 {
		return
	}
	text.line(word)
	for _, line := range lines {
		text.setIn(line)
	}
}
