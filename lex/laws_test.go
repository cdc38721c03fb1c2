package lex_test

import (
	"slices"
	"strings"
	"testing"

	"vertex/api"
	"vertex/lex"
)

// P5.3 to P5.8: many texts, held against the words of the promises.
func TestManyTexts(t *testing.T) {
	clean, faults, joined, named, halves := 0, 0, 0, 0, 0
	for s := range texts {
		want, fault := tokensOf(s)
		got, err := lex.Scan(s)
		all := slices.Collect(lex.All(s))
		if !slices.EqualFunc(all, want, same) {
			t.Fatalf("All(%q): %v, want %v", s, all, want)
		}
		if fault != nil {
			faults++
			if f, ok := err.(*api.Fault); !ok || *f != *fault || len(got) != 0 {
				t.Fatalf("Scan(%q): %v, %v, want %v", s, got, err, fault)
			}
			continue
		}
		clean++
		if err != nil || !slices.EqualFunc(got, want, same) {
			t.Fatalf("Scan(%q): %v, %v, want %v", s, got, err, want)
		}
		for _, k := range got {
			switch {
			case k.Kind == api.TWord && strings.ContainsAny(k.Text, " \t\n\r\\"):
				joined++
			case k.Kind == api.TName && lex.Word(k.Text) != 0:
				named++
			case k.Kind == api.TName && !lex.Legal(k.Text):
				halves++
			}
		}
	}
	if clean < 50000 || faults < 50000 || joined < 2000 || named < 2000 || halves < 2000 {
		t.Errorf("only %d texts without a fault, %d with one, %d pairs, %d words as names, %d halves of a pair", clean, faults, joined, named, halves)
	}
}

// P5.9: the Texts, a blank between each two, are scanned as the same tokens; so they are with another gap there.
func TestTokensToldAgain(t *testing.T) {
	i := 0
	for s := range texts {
		tokens, err := lex.Scan(s)
		if err != nil {
			continue
		}
		var told []string
		for _, k := range tokens {
			told = append(told, k.Text)
		}
		for _, g := range []string{" ", gaps[i%len(gaps)]} {
			again, err := lex.Scan(strings.Join(told, g))
			if err != nil || !slices.EqualFunc(again, tokens, alike) {
				t.Fatalf("%q is %v, told again with %q between %v, %v", s, tokens, g, again, err)
			}
		}
		i++
	}
}

// P5.9: each Text stands at its place, and between them there are gaps alone.
func TestTextsStandAtTheirPlaces(t *testing.T) {
	for s := range texts {
		tokens, err := lex.Scan(s)
		if err != nil {
			continue
		}
		lines := strings.SplitAfter(s, "\n")
		end := 0
		for _, k := range tokens {
			begin := len(strings.Join(lines[:k.Line-1], "")) + k.Col - 1
			if k.Col < 1 || k.Col > len(lines[k.Line-1]) || begin < end || !strings.HasPrefix(s[begin:], k.Text) {
				t.Fatalf("%q: %q isn't at line %d, byte %d", s, k.Text, k.Line, k.Col)
			}
			if between := s[end:begin]; gapAt.FindString(between) != between {
				t.Fatalf("%q: %q between two tokens", s, between)
			}
			end = begin + len(k.Text)
		}
		if behind := s[end:]; gapAt.FindString(behind) != behind {
			t.Fatalf("%q: %q behind the last token", s, behind)
		}
	}
}

// P5.1, P5.2, P5.9: texts as names and as words, held against the words of the promises; a Legal name is a TName wherever it stands between blanks.
func TestManyNames(t *testing.T) {
	legals, words := 0, 0
	for s := range texts {
		if w := lex.Word(s); w != wordOf(s) {
			t.Fatalf("Word(%q): %d, want %d", s, w, wordOf(s))
		} else if w != 0 {
			words++
		}
		ok := lex.Legal(s)
		if ok != legal(s) {
			t.Fatalf("Legal(%q): %v", s, ok)
		}
		if !ok {
			continue
		}
		legals++
		for _, ahead := range []string{"", "subject", "such", "max", "1", "x :", "<="} {
			for _, behind := range []string{"", "to", "that", ":", "5", "end"} {
				tokens, err := lex.Scan(ahead + " " + s + " " + behind)
				if err != nil || !slices.ContainsFunc(tokens, func(k api.Token) bool { return alike(k, name(s)) }) {
					t.Fatalf("Scan(%q): %v, %v", ahead+" "+s+" "+behind, tokens, err)
				}
			}
		}
	}
	if legals < 4000 || words < 20 {
		t.Errorf("only %d names, %d words", legals, words)
	}
}
