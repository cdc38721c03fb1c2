package lex_test

import (
	"slices"
	"strings"
	"testing"
	"unsafe"

	"vertex/api"
	"vertex/lex"
)

const mark = 0xabcdef

const numbers = "1 1 0 1.5 2/3 18446744073709551616 1/3 1/3 .5e-40 x 3"

// lists are the lists of all tokens' numbers.
func lists(tokens []api.Token) (l []api.Nat) {
	for _, k := range tokens {
		l = append(l, k.Num.Num.Mag, k.Num.Den)
	}
	return l
}

// R3: no two lists of an answer share memory, nor do those of two answers, spare room neither; what All gives is answered, too.
func TestAnswersShareNothing(t *testing.T) {
	all := lex.All(numbers)
	tokens, _ := lex.Scan(numbers)
	again, _ := lex.Scan(numbers)
	answers := slices.Concat(lists(tokens), lists(again), lists(slices.Collect(all)), lists(slices.Collect(all)))
	for i, l := range answers {
		want := slices.Clone(l)
		for k := range l[:cap(l)] {
			l[:cap(l)][k] = mark
		}
		for j, other := range answers {
			if j != i && slices.Contains(other[:cap(other)], mark) {
				t.Fatalf("lists %d and %d share memory", i, j)
			}
		}
		clear(l[:cap(l)])
		copy(l, want)
	}
}

// R3, R4: what is done to an answer changes no other one, and nothing is kept from call to call.
func TestAnswersAreTheCallersOwn(t *testing.T) {
	want, _ := tokensOf(numbers)
	all := lex.All(numbers)
	for range 2 {
		tokens, err := lex.Scan(numbers)
		if err != nil || !slices.EqualFunc(tokens, want, same) {
			t.Fatalf("Scan: %v, %v, want %v", tokens, err, want)
		}
		for k := range all {
			tokens = append(tokens, k)
		}
		if !slices.EqualFunc(tokens[len(want):], want, same) {
			t.Fatalf("All: %v, want %v", tokens[len(want):], want)
		}
		for _, l := range lists(tokens) {
			for i := range l[:cap(l)] {
				l[:cap(l)][i] = mark
			}
		}
		clear(tokens[:cap(tokens)])
	}
	if _, err := lex.Scan(numbers + " *"); err == nil {
		t.Error("no fault")
	}
	if tokens, err := lex.Scan(numbers); err != nil || !slices.EqualFunc(tokens, want, same) {
		t.Errorf("Scan behind a fault: %v, %v", tokens, err)
	}
}

// R3: a token's Text is new memory, not a piece of the text that was handed in.
func TestTextsAreNewMemory(t *testing.T) {
	s := strings.Repeat("max name 12 <= subject to + : ", 3)
	first := uintptr(unsafe.Pointer(unsafe.StringData(s)))
	tokens, err := lex.Scan(s)
	if err != nil || len(tokens) != 21 {
		t.Fatalf("Scan: %v, %v", tokens, err)
	}
	for _, k := range tokens {
		if at := uintptr(unsafe.Pointer(unsafe.StringData(k.Text))); at >= first && at < first+uintptr(len(s)) {
			t.Errorf("%q lies in the text", k.Text)
		}
	}
}
