package lex_test

import (
	"strings"
	"testing"

	"vertex/api"
	"vertex/lex"
)

// P5.1: the chapter's examples, and what stands beside them.
func TestLegal(t *testing.T) {
	for s, want := range map[string]bool{
		"x1": true, "1x": false, ".x": false, "Inf": false, "To": false, "s.t.x": true, "": false, "a b": false,
		"x": true, "_": true, "e": true, "e5": true, "E-5": false, "x.": true, "x.1": true, "0": false, "9": false, ".": false, "1.5": false, "subjectto": true, "suchthat": true, "subject1": true, "tox": true, "s.t": true, "st..": true, "..st": false, "to.": true, "maxi": true, "ma": true, "inf1": true, "-inf": false,
		" x": false, "x ": false, "x\n": false, "x\\": false, "\\x": false, "x:": false, "x\x00": false, "\x00": false, "x\xe9": false, "\u00e9": false, "x\u017f": false, "\u017ft": false, "\u212a": false, "subject to": false, "such\tthat": false, "x*": false, "a/b": false, "a^2": false, "[1]": false, "a|b": false,
	} {
		if lex.Legal(s) != want {
			t.Errorf("Legal(%q): %v", s, !want)
		}
	}
	for _, texts := range language {
		for _, text := range texts {
			isIllegal(t, text)
		}
	}
	for _, p := range pairs {
		isIllegal(t, p[0])
		isIllegal(t, p[1])
	}
}

// isIllegal asks for a word that is no name, and for names that have one more byte.
func isIllegal(t *testing.T, text string) {
	t.Helper()
	for _, s := range cases(text) {
		if lex.Legal(s) {
			t.Errorf("%q is Legal", s)
		}
		for _, longer := range []string{s + "_", "_" + s, s + "1"} {
			if !lex.Legal(longer) {
				t.Errorf("%q isn't Legal", longer)
			}
		}
	}
}

// P5.1: the bytes of a name, all of them and no others, as its first one and behind it.
func TestBytesOfNames(t *testing.T) {
	for c := range 256 {
		b := string([]byte{byte(c)})
		may := strings.Contains(nameBytes, b)
		first := may && !strings.Contains("0123456789.", b)
		if lex.Legal(b) != first || lex.Legal(b+"x") != first {
			t.Errorf("Legal of %q at the beginning: %v", b, !first)
		}
		if lex.Legal("x"+b) != may || lex.Legal("x"+b+"x") != may {
			t.Errorf("Legal of %q behind a letter: %v", b, !may)
		}
		if first {
			scans(t, b, name(b))
			scans(t, b+b+"1.", name(b+b+"1."))
		}
		if may {
			scans(t, "x"+b+"y", name("x"+b+"y"))
		}
	}
	if len(nameBytes) != 26+26+10+19 {
		t.Errorf("%d bytes of a name", len(nameBytes))
	}
	all := "_" + nameBytes
	scans(t, all, name(all))
	scans(t, all+":"+all, name(all), sign(api.TColon, ":"), name(all))
	if !lex.Legal(all) {
		t.Error("a name of all bytes isn't Legal")
	}
}

// P5.2: all words, their letters great or small, just as they stand.
func TestWord(t *testing.T) {
	for w, texts := range language {
		for _, text := range texts {
			for _, s := range cases(text) {
				isWord(t, s, w)
				for _, other := range []string{s + " ", " " + s, s + "\n", "\\\n" + s, s + "\\", s + ":", s + "_", "_" + s, s + "1", "." + s, s + s, s + " " + s, s + "\x00"} {
					isWord(t, other, 0)
				}
			}
		}
	}
	for _, s := range []string{"", " ", ".", "1", "x", "minimal", "ma", "maxim", "infin", "s.t", "st..", "s.t..", "s t", "boundss", "generall", "binarys", "endl", "frees", "subject", "such", "to", "that", "suchthat", "subjectto", "\u017ft", "\u017f.t.", "bound\u017f", "\xffst"} {
		isWord(t, s, 0)
	}
	isWord(t, "SUCH\n\tthat", api.WSubject)
	isWord(t, "Minimise", api.WMin)
}

func isWord(t *testing.T, s string, want int) {
	t.Helper()
	if w := lex.Word(s); w != want {
		t.Errorf("Word(%q): %d, want %d", s, w, want)
	}
}

// P5.2: a pair with each gap that isn't empty is a word, and nothing else of its two is.
func TestPairsAsWords(t *testing.T) {
	for _, p := range pairs {
		for i, first := range cases(p[0]) {
			second := cases(p[1])[(i+1)%4]
			isWord(t, first+second, 0)
			isWord(t, first+"\\"+second, 0)
			isWord(t, first+":"+second, 0)
			isWord(t, first+"\v"+second, 0)
			isWord(t, first+"\u00a0"+second, 0)
			for _, g := range gaps {
				isWord(t, first+g+second, api.WSubject)
				for _, other := range []string{g + first + g + second, first + g + second + g, second + g + first, first + g, g + second, first + g + first, second + g + second, first + g + second + "x", first + "x" + g + second, first + g + "1" + second, first + g + second + ":", first + g + second + g + second, first + g + "\\" + second, first + g + "x" + g + second} {
					isWord(t, other, 0)
				}
			}
		}
	}
	for _, g := range gaps {
		isWord(t, "subject"+g+"that", 0)
		isWord(t, "such"+g+"to", 0)
		isWord(t, "st"+g+"to", 0)
		isWord(t, "\u017fubject"+g+"to", 0)
		isWord(t, "\u017fuch"+g+"that", 0)
	}
}

// P5.6: words and names in a text: a word by itself, and a name where a colon is the next byte that is in no gap.
func TestWordsInATextAndColons(t *testing.T) {
	colon := sign(api.TColon, ":")
	for w, texts := range language {
		for _, text := range texts {
			for _, s := range cases(text) {
				scans(t, s, word(w, s))
				scans(t, "x "+s+"+1", name("x"), word(w, s), sign(api.TPlus, "+"), number("1", 1, 1))
				scans(t, s+":", name(s), colon)
				scans(t, s+"_", name(s+"_"))
				scans(t, "3"+s, number("3", 3, 1), word(w, s))
				for _, g := range gaps {
					scans(t, s+g, word(w, s))
					scans(t, s+g+":", name(s), colon)
					scans(t, s+g+"x:", word(w, s), name("x"), colon)
					scans(t, s+g+s+g+":"+s, word(w, s), name(s), colon, word(w, s))
				}
				// The colon of a remark is none, nor is one behind the next token.
				scans(t, s+"\\ :", word(w, s))
				scans(t, s+" \\:\n x", word(w, s), name("x"))
				fails(t, s+"*:", 1, len(s)+1, api.ErrChar, word(w, s))
			}
		}
	}
	scans(t, "max: end : inf", name("max"), colon, name("end"), colon, word(api.WInf, "inf"))
	scans(t, "::max", colon, colon, word(api.WMax, "max"))
}

// P5.6: pairs in a text, with each gap between; a colon behind one makes two names of it.
func TestPairsInATextAndColons(t *testing.T) {
	colon := sign(api.TColon, ":")
	for _, p := range pairs {
		for i, first := range cases(p[0]) {
			second := cases(p[1])[(i+1)%4]
			scans(t, first+second, name(first+second))
			scans(t, first, name(first))
			scans(t, second, name(second))
			scans(t, first+"\\"+second, name(first))
			scans(t, first+":"+second, name(first), colon, name(second))
			fails(t, first+"*"+second, 1, len(first)+1, api.ErrChar, name(first))
			for _, g := range gaps {
				both := first + g + second
				scans(t, both, word(api.WSubject, both))
				scans(t, both+g, word(api.WSubject, both))
				scans(t, "1"+both+"<=", number("1", 1, 1), word(api.WSubject, both), sign(api.TLess, "<="))
				scans(t, both+":", name(first), name(second), colon)
				scans(t, both+g+":"+both, name(first), name(second), colon, word(api.WSubject, both))
				scans(t, both+g+"c:", word(api.WSubject, both), name("c"), colon)
				scans(t, both+"\\:", word(api.WSubject, both))
				scans(t, first+g+both, name(first), word(api.WSubject, both))
				scans(t, first+g+both+":", name(first), name(first), name(second), colon)
				scans(t, both+g+second, word(api.WSubject, both), name(second))
				scans(t, both+g+both, word(api.WSubject, both), word(api.WSubject, both))
				scans(t, both+g+both+g+":", word(api.WSubject, both), name(first), name(second), colon)
				scans(t, first+g+":"+g+second, name(first), colon, name(second))
				scans(t, first+g+"+"+g+second, name(first), sign(api.TPlus, "+"), name(second))
				scans(t, first+g+"1"+second, name(first), number("1", 1, 1), name(second))
				scans(t, first+g+"1"+g+second, name(first), number("1", 1, 1), name(second))
				scans(t, both+"x", name(first), name(second+"x"))
				scans(t, both+".", name(first), name(second+"."))
				scans(t, "x"+both, name("x"+first), name(second))
				scans(t, first+g+"st"+g+second, name(first), word(api.WSubject, "st"), name(second))
				fails(t, both+"*:", 1+strings.Count(both, "\n"), len(both)-strings.LastIndex(both, "\n"), api.ErrChar, word(api.WSubject, both))
			}
		}
	}
	scans(t, "subject that such to", name("subject"), name("that"), name("such"), name("to"))
	scans(t, "to subject that such", name("to"), name("subject"), name("that"), name("such"))
	scans(t, "such to: that", name("such"), name("to"), colon, name("that"))
}
