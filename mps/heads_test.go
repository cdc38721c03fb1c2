package mps_test

import (
	"strings"
	"testing"

	"vertex/api"
)

// inOrder are the heads, as they may stand.
var inOrder = []string{"NAME", "OBJSENSE", "ROWS", "COLUMNS", "RHS", "RANGES", "BOUNDS", "ENDATA"}

// P9.2: each head but ENDATA may be left out or not.
func TestHeadsInOrder(t *testing.T) {
	for choice := range 1 << 7 {
		text := ""
		for i, head := range inOrder {
			if choice>>i&1 == 1 || head == "ENDATA" {
				text += head + "|"
			}
		}
		reads(t, text, "min : 0")
		reads(t, strings.TrimSuffix(text, "|"), "min : 0")
	}
}

// P9.2: a head behind itself, or behind one that it stands ahead of; right behind it, or with another one between.
func TestHeadsOutOfOrder(t *testing.T) {
	for i, late := range inOrder[:7] {
		for j, early := range inOrder[:i+1] {
			fails(t, late+"|"+early+"|ENDATA", 2, 1, api.ErrSection)
			fails(t, late+"|"+early+" x|ENDATA", 2, 1, api.ErrSection)
			for _, between := range inOrder[i+1 : 7] {
				fails(t, late+"|*||"+between+"|"+early+"|ENDATA", 5, 1, api.ErrSection)
			}
			for _, first := range inOrder[:j] {
				fails(t, first+"|"+late+"|"+early, 3, 1, api.ErrSection)
			}
		}
	}
}

// P9.2: first words that are no heads.
func TestNoHeads(t *testing.T) {
	for _, head := range inOrder {
		for _, x := range []string{strings.ToLower(head), head[:1] + strings.ToLower(head[1:]), head + "X", head[1:], head[:len(head)-1], head + ":", "'" + head + "'", head + "\x00", "\ufeff" + head, head + "\v"} {
			fails(t, x+"|ENDATA", 1, 1, api.ErrSection)
			fails(t, x+" y z|ENDATA", 1, 1, api.ErrSection)
			fails(t, "NAME|ROWS|"+x+"|ENDATA", 3, 1, api.ErrSection)
		}
	}
	for _, x := range []string{"N", "x", "-", "OBJSENSEMAX", "OBJSENSE.", "OBJNAME", "SOS", "ENDDATA", "é", "\xff", "0", "'MARKER'", "MAX", "RANGE", "BOUND"} {
		fails(t, x+"|ENDATA", 1, 1, api.ErrSection)
		fails(t, "NAME|"+x, 2, 1, api.ErrSection)
		fails(t, "BOUNDS|"+x, 2, 1, api.ErrSection)
	}
}

// P9.2: words behind a head in its line, of which NAME alone may have some.
func TestWordsBehindHeads(t *testing.T) {
	for _, head := range inOrder[1:] {
		for _, x := range []string{" x", "\tx y", " MAX", "\r\rENDATA", "   " + head, " *"} {
			col := len(head) + 1 + strings.IndexFunc(x, func(b rune) bool { return b > ' ' })
			fails(t, head+x+"|ENDATA", 1, col, api.ErrField)
			fails(t, "NAME|"+head+x, 2, col, api.ErrField)
		}
		reads(t, head+" \t\r |ENDATA", "min : 0")
	}
	for _, x := range []string{" x", " x y z", " ENDATA", " NAME", "\t'MARKER'\t* \xff", " ROWS | "} {
		reads(t, "NAME"+x+"|ENDATA", "min : 0")
	}
}

// P9.2: a text without ENDATA is at fault one line behind its last one.
func TestWithoutTheEnd(t *testing.T) {
	for text, line := range map[string]int{
		"": 1, "\n": 2, "\n\n": 3, " ": 2, "\r\n": 2, "*": 2, "*\n": 2, "* ENDATA": 2, "\n\n ": 4,
		"NAME": 2, "NAME\n": 2, "NAME\n\n": 3, "NAME\nROWS": 3, "NAME\nROWS\n": 3, "ROWS\n N c\n G r": 4, "ROWS\n N c\n G r\n*\n": 5, "OBJSENSE\n MAX\n\n\n": 5, "NAME ENDATA": 2, "NAME\n* x\nBOUNDS\n\r": 5,
	} {
		isRefusedAt(t, text, place{line, 1, api.ErrSection})
	}
}

// P9.1, P9.2: what stands behind the line of ENDATA isn't looked at; what stands behind it in its line is.
func TestBehindTheEnd(t *testing.T) {
	for _, x := range []string{"", "\n", "\nwhat", "\nENDATA", "\nROWS\n Q\n", "\n N c", "\n\n\x00\xff", "\r\n N", " \t\n x", "\n*"} {
		isReadAs(t, lined(whole)+x, wholeTold)
		isReadAs(t, "ENDATA"+x, "min : 0")
	}
	fails(t, "ENDATA x|", 1, 8, api.ErrField)
	fails(t, "ENDATA ENDATA", 1, 8, api.ErrField)
}

// P9.3: entries ahead of the first head, and of NAME.
func TestEntriesWithoutHead(t *testing.T) {
	for _, x := range []string{"N c", "MAX", "x", "x y z 1 2 3 4", "ENDATA", "ROWS", "* a remark", "'MARKER'"} {
		for _, gap := range []string{" ", "\t", "\r", "   ", " \t\r"} {
			fails(t, gap+x+"|ENDATA", 1, 1+len(gap), api.ErrSection)
			fails(t, "|* y|"+gap+x, 3, 1+len(gap), api.ErrSection)
			fails(t, "NAME|"+gap+x+"|ROWS|ENDATA", 2, 1+len(gap), api.ErrSection)
			fails(t, "NAME a b||"+gap+x, 3, 1+len(gap), api.ErrSection)
		}
	}
}

// P9.1, P9.3: an entry belongs to the last head ahead of it, whatever stands between.
func TestEntriesBelongToTheirHead(t *testing.T) {
	reads(t, "OBJSENSE||*| MAX|ENDATA", "max : 0")
	reads(t, "OBJSENSE| MAX|* ROWS| MIN|ENDATA", "min : 0")
	fails(t, "OBJSENSE|ROWS| MAX|ENDATA", 3, 5, api.ErrField)
	fails(t, "ROWS| N c|COLUMNS| N d|ENDATA", 4, 5, api.ErrField)
	fails(t, "ROWS| N RHS|COLUMNS| RHS RHS 1| RHS|ENDATA", 5, 5, api.ErrField)
}
