package crew_test

import (
	"slices"
	"testing"

	"vertex/api"
	"vertex/crew"
)

// P20.1, P20.3, P20.5: whatever the texts, and however many workers: each text has the answer that it has alone, and what is first is first; asked again, it is the same again.
func TestTextsByChance(t *testing.T) {
	r := chances(201)
	count := map[string]int{}
	for range 40 {
		texts := r.texts(20)
		answers := allAlone(texts)
		for _, workers := range crews() {
			for range 1 + r.Intn(2) {
				answersAll(t, texts, workers, answers)
			}
			for _, verdict := range verdicts() {
				answersFirst(t, texts, workers, verdict, firstOf(answers, verdict))
			}
		}
		for _, verdict := range verdicts() {
			if at := firstOf(answers, verdict); at > 0 {
				count[verdictOf(verdict)]++
			} else if at < 0 {
				count["no "+verdictOf(verdict)]++
			}
		}
	}
	enough(t, 5, count, "optimal", "infeasible", "unbounded", "no optimal", "no infeasible", "no unbounded", "no stopped")
}

// P20.4, P20.5: whatever the problems, and however many workers: the one that is best is the same, and so is its certificate.
func TestProblemsByChance(t *testing.T) {
	r := chances(202)
	count := map[string]int{}
	for range 150 {
		l := r.problems(20)
		certs := certsOf(l)
		want, best := bestOf(certs)
		for _, workers := range crews() {
			for range 1 + r.Intn(2) {
				answersBest(t, l, workers, want, told(best))
			}
		}
		if want < 0 {
			count["none"]++
			continue
		}
		count[map[bool]string{false: "min", true: "max"}[l[want].Max]]++
		for _, c := range certs[want+1:] {
			if c.Verdict == api.Optimal && toBig(c.Value).Cmp(toBig(best.Value)) == 0 {
				count["several"]++
				break
			}
		}
		if !toBig(best.Value).IsInt() {
			count["fractions"]++
		}
		if len(best.X) > 0 {
			count["points"]++
		}
	}
	enough(t, 5, count, "none", "min", "max", "several", "fractions", "points")
}

// P20.5: All of two lists, one behind the other, is All of the one and All of the other, each by any number of workers.
func TestTwoListsOneBehindTheOther(t *testing.T) {
	r := chances(203)
	for range 100 {
		one, other := r.texts(10), r.texts(10)
		first, err := crew.All(one, 1+r.Intn(16))
		if err != nil {
			t.Fatal(err)
		}
		second, err := crew.All(other, 1+r.Intn(16))
		if err != nil {
			t.Fatal(err)
		}
		answersAll(t, slices.Concat(one, other), 1+r.Intn(16), slices.Concat(first, second))
	}
}
