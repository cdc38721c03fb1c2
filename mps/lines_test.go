package mps_test

import (
	"strings"
	"testing"

	"vertex/api"
)

// whole is a text with something under each head, and its problem.
const (
	whole     = "* a remark|NAME some thing|OBJSENSE| MAX|ROWS| N c| G r| E s|COLUMNS| x c 1 r 2| m 'MARKER' 'INTORG'| y s 1/2|RHS| b r 4 c -1|RANGES| r 3|BOUNDS| UP x 9| FR b y|ENDATA"
	wholeTold = "max c: 1 | x 1 from 0 to 9 | y 0 from none to none whole | r: 2@0 from 4 to 7 | s: 1/2@1 from 0 to 0"
)

// The chapter's examples.
func TestExamplesOfReading(t *testing.T) {
	reads(t, "ROWS| N c| G r|COLUMNS| x c 1 r 2|RHS| b r 4|ENDATA", "min c: 0 | x 1 from 0 to none | r: 2@0 from 4 to none")
	reads(t, "ROWS| N c| G r|COLUMNS| x c 1 r 2|RHS| b r 4|RANGES| r 3|BOUNDS| UP x 9| MI x|ENDATA", "min c: 0 | x 1 from none to 9 | r: 2@0 from 4 to 7")
	reads(t, "ENDATA", "min : 0")
	reads(t, "ROWS| N c|COLUMNS| x c 1/2| x c 0.5| m 'MARKER' 'INTORG'| y c 0|RHS| c 3|ENDATA", "min c: -3 | x 1 from 0 to none | y 0 from 0 to none whole")
	reads(t, "ROWS| N -| E r|RANGES| r -2|ENDATA", "min : 0 | r: from -2 to 0")
	reads(t, whole, wholeTold)
}

// The chapter's examples of faults.
func TestExamplesOfFaults(t *testing.T) {
	fails(t, "", 1, 1, api.ErrSection)
	fails(t, "ROWS", 2, 1, api.ErrSection)
	fails(t, "ROWS|NAME|ENDATA", 2, 1, api.ErrSection)
	fails(t, "Rows|ENDATA", 1, 1, api.ErrSection)
	fails(t, " N c|ENDATA", 1, 2, api.ErrSection)
	fails(t, "ROWS x|ENDATA", 1, 6, api.ErrField)
	fails(t, "ROWS| N|ENDATA", 2, 3, api.ErrField)
	fails(t, "ROWS| Q r|ENDATA", 2, 2, api.ErrField)
	fails(t, "ROWS| N c d|ENDATA", 2, 6, api.ErrField)
	fails(t, "ROWS| N c| G c|ENDATA", 3, 4, api.ErrTwice)
	fails(t, "ROWS| N c|COLUMNS| x d 1|ENDATA", 4, 4, api.ErrName)
	fails(t, "ROWS| N c|COLUMNS| x c 1 d|ENDATA", 4, 9, api.ErrField)
	fails(t, "ROWS| N c|COLUMNS| x c one|ENDATA", 4, 6, api.ErrNumber)
	fails(t, "ROWS| N c|RANGES| c 1|ENDATA", 4, 2, api.ErrField)
	fails(t, "BOUNDS| UP x 1|ENDATA", 2, 5, api.ErrName)
}

// P9.1: the last line may end with a line feed or not; lines without a word and remarks are passed over, wherever they stand.
func TestLinesThatArePassedOver(t *testing.T) {
	isReadAs(t, lined(whole)+"\n", wholeTold)
	idle := []string{"", " ", "\t", "\r", " \t\r ", "*", "* a remark", "*ROWS", "*ENDATA", "** N c", "*\x00\xff", "* \r"}
	lines := strings.Split(lined(whole), "\n")
	for _, x := range idle {
		for i := range lines {
			text := strings.Join(lines[:i], "\n") + "\n" + x + "\n" + strings.Join(lines[i:], "\n")
			isReadAs(t, text, wholeTold)
			isReadAs(t, strings.TrimPrefix(text, "\n"), wholeTold)
		}
		isReadAs(t, strings.Join(lines, "\n"+x+"\n"), wholeTold)
	}
}

// P9.1: lines that are passed over count for the places of those that aren't.
func TestLinesAreCounted(t *testing.T) {
	fails(t, "|* x||ROWS||*| Q r|ENDATA", 7, 2, api.ErrField)
	fails(t, "\r|\r|Rows", 3, 1, api.ErrSection)
	fails(t, "NAME|* ENDATA", 3, 1, api.ErrSection)
}

// P9.1: a remark begins with the line's first byte, and nowhere else.
func TestRemarksWithin(t *testing.T) {
	fails(t, " * a remark|ENDATA", 1, 2, api.ErrSection)
	fails(t, "ROWS| *|ENDATA", 2, 3, api.ErrField)
	fails(t, "ROWS * a|ENDATA", 1, 6, api.ErrField)
	reads(t, "ROWS| N *| G *r|COLUMNS| *x * 1 *r 2|ENDATA", "min *: 0 | *x 1 from 0 to none | *r: 2@0 from 0 to none")
	reads(t, "NAME * a|ENDATA", "min : 0")
}

// P9.1: blanks, tabs and carriage returns part words, any number of them, ahead of the first and behind the last one too.
func TestGaps(t *testing.T) {
	for _, gap := range []string{" ", "\t", "\r", "  ", " \t", "\t\r ", "\r\r", "         "} {
		for _, end := range []string{"", " ", "\t", "\r", " \r", "\t \t"} {
			text := strings.ReplaceAll(strings.ReplaceAll(lined(whole), " ", gap), "\n", end+"\n") + end
			isReadAs(t, text, wholeTold)
			isReadAs(t, text+"\n", wholeTold)
		}
	}
}

// P9.1: places are told in bytes, whatever the words are parted by, and that of a missing word lies behind all of the line, but not behind its line feed.
func TestPlaces(t *testing.T) {
	fails(t, "ROWS|\t\tN\r c   d|ENDATA", 2, 10, api.ErrField)
	fails(t, "ROWS|\r\rQ c|ENDATA", 2, 3, api.ErrField)
	fails(t, "ROWS| N |ENDATA", 2, 4, api.ErrField)
	fails(t, "ROWS| N\r|ENDATA", 2, 4, api.ErrField)
	fails(t, "ROWS| N \t \r", 2, 7, api.ErrField)
	fails(t, "ROWS| N", 2, 3, api.ErrField)
	fails(t, "ROWS \r x|ENDATA", 1, 8, api.ErrField)
	fails(t, "ROWS| N é| G \xff\x00 r|ENDATA", 3, 7, api.ErrField)
	fails(t, "ROWS| N ééé é", 2, 11, api.ErrField)
}

// P9.1: no other byte parts words, or lines.
func TestBytesOfWords(t *testing.T) {
	for b := range 256 {
		sign := string([]byte{byte(b)})
		text := "ROWS\n N c" + sign + "d\nENDATA"
		switch sign {
		case " ", "\t", "\r":
			isRefusedAt(t, text, place{2, 6, api.ErrField})
		case "\n":
			isRefusedAt(t, text, place{3, 1, api.ErrSection})
		default:
			isReadAs(t, text, "min c"+sign+"d: 0")
			isReadAs(t, "ROWS\n N "+sign+sign+"\nENDATA", "min "+sign+sign+": 0")
		}
		text = sign + "ENDATA"
		switch sign {
		case " ", "\t", "\r":
			isRefusedAt(t, text, place{1, 2, api.ErrSection})
		case "\n":
			isReadAs(t, text, "min : 0")
		case "*":
			isRefusedAt(t, text, place{2, 1, api.ErrSection})
		default:
			isRefusedAt(t, text, place{1, 1, api.ErrSection})
		}
	}
	isReadAs(t, "ROWS\n N \u00a0\u2028\nENDATA", "min \u00a0\u2028: 0")
}
