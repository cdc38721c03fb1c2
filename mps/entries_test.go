package mps_test

import (
	"strings"
	"testing"

	"vertex/api"
)

// base is a text up to a head, under which entries are to stand: the objective c, rows g, l, e, a further N n, variables x, y.
func base(head string) string {
	parts := []string{"OBJSENSE|", "ROWS| N c| G g| L l| E e| N n|", "COLUMNS| x c 1| y c 2|", "RHS|", "RANGES|", "BOUNDS|"}
	for i, part := range parts {
		if strings.HasPrefix(part, head+"|") {
			return strings.Join(parts[:i], "") + head + "|"
		}
	}
	panic("the test's own head is none: " + head)
}

// faultBehind asks for the fault of an entry that stands behind a base.
func faultBehind(t *testing.T, head, entry string, col int, why error) {
	t.Helper()
	fails(t, base(head)+entry+"|ENDATA", 1+strings.Count(base(head), "|"), col, why)
}

// readsBehind asks that an entry is taken behind a base.
func readsBehind(t *testing.T, head, entry, want string) {
	t.Helper()
	reads(t, base(head)+entry+"|ENDATA", want)
}

// P9.3: how many words an entry may have, of each head and of each kind of bounds: of the first one, the first two, and so on of some words it is told whether they are taken (k), one is missing (m), one is too many (t), or there is another fault (-).
func TestNumbersOfWords(t *testing.T) {
	for _, x := range []struct{ head, words, want string }{
		{"OBJSENSE", "MAX MIN MAX", "ktt"},
		{"ROWS", "N z a b", "mktt"},
		{"COLUMNS", "x c 1 g 2 l 3 e 4", "mmkmktttt"},
		{"RHS", "g 1 l 2 e 3 c 4", "mk-k-ttt"},
		{"RHS", "set g 1 l 2 e 3", "m-k-ktt"},
		{"RANGES", "g 1 l 2 e 3 g 4", "mk-k-ttt"},
		{"RANGES", "set g 1 l 2 e 3", "m-k-ktt"},
		{"BOUNDS", "LO x 1 2 3 4", "mmk-tt"}, {"BOUNDS", "LO set x 1 2 3", "mm-ktt"},
		{"BOUNDS", "UP x 1 2 3 4", "mmk-tt"}, {"BOUNDS", "UP set x 1 2 3", "mm-ktt"},
		{"BOUNDS", "FX x 1 2 3 4", "mmk-tt"}, {"BOUNDS", "FX set x 1 2 3", "mm-ktt"},
		{"BOUNDS", "FR x y 1 2", "mkktt"}, {"BOUNDS", "MI x y 1 2", "mkktt"},
		{"BOUNDS", "PL x y 1 2", "mkktt"}, {"BOUNDS", "BV x y 1 2", "mkktt"},
	} {
		words := strings.Fields(x.words)
		ended := strings.LastIndexAny(x.want, "mk-") + 1
		for i, want := range x.want {
			entry := " " + strings.Join(words[:i+1], " ")
			switch want {
			case 'k':
				if text := lined(base(x.head) + entry + "|ENDATA"); readingOf(text).err != nil {
					t.Errorf("%q: %v", text, readingOf(text).err)
				}
			case 'm':
				faultBehind(t, x.head, entry, len(entry)+1, api.ErrField)
				faultBehind(t, x.head, entry+" \r", len(entry)+3, api.ErrField)
			case 't':
				faultBehind(t, x.head, entry, len(" "+strings.Join(words[:ended], " "))+2, api.ErrField)
			}
		}
	}
}

// P9.3: the number of words is looked at ahead of the words, but for the kind in BOUNDS.
func TestNumberOfWordsComesFirst(t *testing.T) {
	faultBehind(t, "OBJSENSE", " what ever", 7, api.ErrField)
	faultBehind(t, "ROWS", " Q", 3, api.ErrField)
	faultBehind(t, "ROWS", " Q - z", 6, api.ErrField)
	faultBehind(t, "ROWS", " G c z", 6, api.ErrField)
	faultBehind(t, "COLUMNS", " x none", 8, api.ErrField)
	faultBehind(t, "COLUMNS", " x none one none", 17, api.ErrField)
	faultBehind(t, "COLUMNS", " x none one none two x", 22, api.ErrField)
	faultBehind(t, "COLUMNS", " x 'MARKER'", 12, api.ErrField)
	faultBehind(t, "COLUMNS", " x 'MARKER' 'INTORG' y", 23, api.ErrField)
	faultBehind(t, "RHS", " none", 6, api.ErrField)
	faultBehind(t, "RHS", " a none one none two z", 22, api.ErrField)
	faultBehind(t, "RANGES", " c", 3, api.ErrField)
	faultBehind(t, "RANGES", " a c one n two z", 16, api.ErrField)
	faultBehind(t, "BOUNDS", " UP none", 9, api.ErrField)
	faultBehind(t, "BOUNDS", " UP a none one z", 16, api.ErrField)
	faultBehind(t, "BOUNDS", " FR a none z", 12, api.ErrField)
	for _, rest := range []string{"", " x", " x 1", " a x 1", " a x 1 2", " a b c d e f g"} {
		for _, kind := range []string{"XX", "lo", "Up", "FXX", "F", "N", "LI", "UI", "SC", "-", "x", "1"} {
			faultBehind(t, "BOUNDS", " "+kind+rest, 2, api.ErrField)
		}
	}
}

// P9.3: the sense, in great letters alone; the last one holds.
func TestSense(t *testing.T) {
	for _, x := range []string{"max", "Max", "MAXIMIZE", "min", "MINIMIZE", "M", "MAX.", "1", "-", "MA", "MAXMIN"} {
		faultBehind(t, "OBJSENSE", " "+x, 2, api.ErrField)
		faultBehind(t, "OBJSENSE", "\t \r"+x, 4, api.ErrField)
	}
	reads(t, "OBJSENSE|ENDATA", "min : 0")
	reads(t, "OBJSENSE| MAX|ENDATA", "max : 0")
	reads(t, "OBJSENSE| MIN|ENDATA", "min : 0")
	reads(t, "OBJSENSE| MIN| MAX| MAX|ENDATA", "max : 0")
	reads(t, "OBJSENSE| MAX| MIN|ENDATA", "min : 0")
}

// P9.3: the kinds of rows, the names that stood there ahead, and the name '-'.
func TestRows(t *testing.T) {
	for _, kind := range []string{"Q", "n", "g", "NN", "GE", "-", "=", ">", "0", "'N'"} {
		fails(t, "ROWS| "+kind+" r|ENDATA", 2, 2, api.ErrField)
		fails(t, "ROWS| N c| "+kind+" c|ENDATA", 3, 2, api.ErrField)
		fails(t, "ROWS| "+kind+" -|ENDATA", 2, 2, api.ErrField)
	}
	for _, one := range []string{"N", "G", "L", "E"} {
		for _, two := range []string{"N", "G", "L", "E"} {
			fails(t, "ROWS| "+one+" r| "+two+"  r|ENDATA", 3, 5, api.ErrTwice)
			fails(t, "ROWS| "+one+" r| N z| "+two+" s| "+two+" r|ENDATA", 5, 4, api.ErrTwice)
			fails(t, "ROWS| N -| "+one+" r| "+two+" -|ENDATA", 4, 4, api.ErrField)
			fails(t, "ROWS| N c| "+two+" -|ENDATA", 3, 4, api.ErrField)
		}
		if one != "N" {
			fails(t, "ROWS| "+one+" -|ENDATA", 2, 4, api.ErrField)
			fails(t, "ROWS| "+one+" - | N -|ENDATA", 2, 4, api.ErrField)
			reads(t, "ROWS| "+one+" r| N -|COLUMNS| x - 2|ENDATA", "min : 0 | x 2 from 0 to none | r:"+map[string]string{"G": " from 0 to none", "L": " from none to 0", "E": " from 0 to 0"}[one])
		}
	}
	reads(t, "ROWS| N --| G -r| L R| E r|ENDATA", "min --: 0 | -r: from 0 to none | R: from none to 0 | r: from 0 to 0")
}

// The objective is the first N, wherever it stands; further ones are rows without bounds; without any there is none to speak of.
func TestObjective(t *testing.T) {
	reads(t, "ROWS| G a| N b| N c| E d|COLUMNS| x a 1 b 2| x c 3 d 4|RHS| b 5|ENDATA", "min b: -5 | x 2 from 0 to none | a: 1@0 from 0 to none | c: 3@0 from none to none | d: 4@0 from 0 to 0")
	reads(t, "ROWS| N -| N b|COLUMNS| x - 1/2 b 2| x - 1/3|RHS| - 7/5|ENDATA", "min : -7/5 | x 5/6 from 0 to none | b: 2@0 from none to none")
	reads(t, "ROWS| G a|COLUMNS| x a 1|ENDATA", "min : 0 | x 0 from 0 to none | a: 1@0 from 0 to none")
	for _, name := range []string{"-", "c", "obj", "N", "0"} {
		fails(t, "ROWS| G a|COLUMNS| x "+name+" 1|ENDATA", 4, 4, api.ErrName)
		fails(t, "ROWS| G a|RHS| "+name+" 1|ENDATA", 4, 2, api.ErrName)
		fails(t, "ROWS| G a|RHS| set "+name+" 1|ENDATA", 4, 6, api.ErrName)
	}
	fails(t, "ROWS| N c|COLUMNS| x - 1|ENDATA", 4, 4, api.ErrName)
	fails(t, "ROWS| N c|RHS| - 1|ENDATA", 4, 2, api.ErrName)
	reads(t, "OBJSENSE| MAX|ROWS| N c|COLUMNS|RHS| set c -1e-1|ENDATA", "max c: 1/10")
}

// P9.3: rows that aren't there, at each place that should name one; names are taken as they stand, letter by letter.
func TestRowsThatAreNotThere(t *testing.T) {
	for _, name := range []string{"z", "C", "cc", "x", "-", "1", "'MARKER'", "G"} {
		faultBehind(t, "COLUMNS", " x "+name+" 1", 4, api.ErrName)
		faultBehind(t, "COLUMNS", " x c 1 "+name+" 1", 8, api.ErrName)
		faultBehind(t, "RHS", " "+name+" 1", 2, api.ErrName)
		faultBehind(t, "RHS", " g 1 "+name+" 1", 6, api.ErrName)
		faultBehind(t, "RHS", " a "+name+" 1", 4, api.ErrName)
		faultBehind(t, "RHS", " a g 1 "+name+" 1", 8, api.ErrName)
		faultBehind(t, "RANGES", " "+name+" 1", 2, api.ErrName)
		faultBehind(t, "RANGES", " g 1 "+name+" 1", 6, api.ErrName)
		faultBehind(t, "RANGES", " a "+name+" 1", 4, api.ErrName)
		faultBehind(t, "RANGES", " a g 1 "+name+" 1", 8, api.ErrName)
	}
	fails(t, "COLUMNS| x c 1|ENDATA", 2, 4, api.ErrName)
	fails(t, "RHS| c 1|ENDATA", 2, 2, api.ErrName)
	fails(t, "RANGES| c 1|ENDATA", 2, 2, api.ErrName)
}

// P9.3: rows of which a RANGE, or an RHS, can't be said, at each place; the number behind isn't looked at.
func TestRowsWithoutBounds(t *testing.T) {
	for _, name := range []string{"c", "n"} {
		for _, number := range []string{"1", "one"} {
			faultBehind(t, "RANGES", " "+name+" "+number, 2, api.ErrField)
			faultBehind(t, "RANGES", " g 1 "+name+" "+number, 6, api.ErrField)
			faultBehind(t, "RANGES", " a "+name+" "+number, 4, api.ErrField)
			faultBehind(t, "RANGES", " a g 1 "+name+" "+number, 8, api.ErrField)
			if name == "n" {
				faultBehind(t, "RHS", " n "+number, 2, api.ErrField)
				faultBehind(t, "RHS", " c 1 n "+number, 6, api.ErrField)
				faultBehind(t, "RHS", " a n "+number, 4, api.ErrField)
				faultBehind(t, "RHS", " a c 1 n "+number, 8, api.ErrField)
			}
		}
	}
	fails(t, "ROWS| N -|RANGES| - 1|ENDATA", 4, 2, api.ErrField)
	fails(t, "ROWS| N c|RANGES| - 1|ENDATA", 4, 2, api.ErrName)
}

// P9.3: variables that aren't there, of each kind of bounds, with a word ahead and without.
func TestVariablesThatAreNotThere(t *testing.T) {
	for _, name := range []string{"z", "X", "c", "g", "set", "-", "1"} {
		for _, kind := range []string{"LO", "UP", "FX"} {
			for _, number := range []string{"1", "one"} {
				faultBehind(t, "BOUNDS", " "+kind+" "+name+" "+number, 5, api.ErrName)
				faultBehind(t, "BOUNDS", " "+kind+" x "+name+" "+number, 7, api.ErrName)
			}
		}
		for _, kind := range []string{"FR", "MI", "PL", "BV"} {
			faultBehind(t, "BOUNDS", " "+kind+" "+name, 5, api.ErrName)
			faultBehind(t, "BOUNDS", " "+kind+" x "+name, 7, api.ErrName)
		}
	}
	fails(t, "ROWS| N c|COLUMNS| m 'MARKER' 'INTORG'|BOUNDS| FR m|ENDATA", 6, 5, api.ErrName)
}

// P9.3: words that are no numbers, with the very error that rat.Parse has, at each place that should be one.
func TestNoNumbers(t *testing.T) {
	for word, why := range map[string]error{
		"one": api.ErrNumber, "1e": api.ErrNumber, ".": api.ErrNumber, "1.2/3": api.ErrNumber, "--1": api.ErrNumber, "1/-2": api.ErrNumber, "inf": api.ErrNumber, "1,5": api.ErrNumber, "0x1": api.ErrNumber, "1d3": api.ErrNumber, "1\x00": api.ErrNumber, "-": api.ErrNumber, "c": api.ErrNumber, "'INTORG'": api.ErrNumber, "1_0": api.ErrNumber,
		"1e10000": api.ErrExponent, "0e-10000": api.ErrExponent, "1E+99999999999999999999": api.ErrExponent,
		"1/0": api.ErrDivide, "0/00": api.ErrDivide, "-7/0": api.ErrDivide,
	} {
		for head, entries := range map[string][]string{
			"COLUMNS": {" x c ", " x c 1 g ", " c g ", " new c ", " 'MARKER' c "},
			"RHS":     {" g ", " c ", " g 1 l ", " a c ", " a g 1 e "},
			"RANGES":  {" g ", " g 1 l ", " a e ", " a g 1 e "},
			"BOUNDS":  {" LO x ", " UP x ", " FX y ", " LO a x ", " UP x y ", " FX FR x "},
		} {
			for _, entry := range entries {
				faultBehind(t, head, entry+word, 1+len(entry), why)
			}
		}
		faultBehind(t, "COLUMNS", " x c "+word+" none "+word, 6, why)
		faultBehind(t, "RHS", " g "+word+" none "+word, 4, why)
		faultBehind(t, "RANGES", " a g "+word+" c "+word, 6, why)
	}
}

// P9.3: numbers of every form that rat.Parse takes.
func TestNumbers(t *testing.T) {
	for word, want := range map[string]string{"12": "12", "-0.50": "-1/2", ".5": "1/2", "5.": "5", "+1e-2": "1/100", "6/4": "3/2", "-1/3": "-1/3", "1E2": "100", "000": "0", "-0": "0", "1e00002": "100", "18446744073709551616": "18446744073709551616", "1e9999": "1" + strings.Repeat("0", 9999)} {
		reads(t, "ROWS| N c| E r|COLUMNS| x c "+word+"|RHS| r "+word+"|BOUNDS| FX x "+word+"|ENDATA", "min c: 0 | x "+want+" from "+want+" to "+want+" | r: from "+want+" to "+want)
	}
}

// P9.1: of several faults the first one, line by line; of an entry's the first by its number of words, then from the left.
func TestFirstFault(t *testing.T) {
	fails(t, "ROWS| Q r| G|NAME", 2, 2, api.ErrField)
	fails(t, "ROWS| G| Q r|NAME", 2, 3, api.ErrField)
	fails(t, "ROWS| G r|NAME| Q", 3, 1, api.ErrSection)
	fails(t, "ROWS x| Q r", 1, 6, api.ErrField)
	fails(t, "ROWS| N c|COLUMNS| x d one e two| y|what", 4, 4, api.ErrName)
	fails(t, "ROWS| N c|COLUMNS| x c one e two| y|what", 4, 6, api.ErrNumber)
	fails(t, "ROWS| N c|COLUMNS| x c 1 e two| y|what", 4, 8, api.ErrName)
	fails(t, "ROWS| N c|COLUMNS| x c 1 c 1/0| y|what", 4, 10, api.ErrDivide)
	fails(t, "ROWS| N c|COLUMNS| x c 1 c 1| y|what", 5, 3, api.ErrField)
	fails(t, "ROWS| N c|COLUMNS| x c 1 c 1|what", 5, 1, api.ErrSection)
	fails(t, "ROWS| N c|COLUMNS| x c 1 c 1|", 5, 1, api.ErrSection)
	fails(t, "ROWS| N c|BOUNDS| ZZ y one|ENDATA x", 4, 2, api.ErrField)
	fails(t, "ROWS| N c|BOUNDS| UP y one|ENDATA x", 4, 5, api.ErrName)
	fails(t, "ROWS| N c|BOUNDS|ENDATA x", 4, 8, api.ErrField)
	fails(t, "ROWS| Q -| N c", 2, 2, api.ErrField)
	fails(t, "ROWS| N -| G -| G -", 3, 4, api.ErrField)
}
