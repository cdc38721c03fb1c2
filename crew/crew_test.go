package crew_test

import (
	"fmt"
	"slices"
	"strings"
	"testing"

	"vertex/api"
	"vertex/crew"
)

// P20.1, P20.3, P20.4: the chapter's examples, row by row.
func TestExamples(t *testing.T) {
	answersAll(t, []string{x, y, z}, 2, []string{answerX, answerY, answerZ})
	answersAll(t, nil, 16, nil)
	answersFirst(t, []string{z, y, x, y}, 3, api.Unbounded, 1)
	answersFirst(t, []string{z, y}, 1, api.Optimal, -1)
	answersBest(t, problems("min x st bounds x >= 3", "min x st bounds x >= 2", "max x st bounds -inf <= x <= 2"), 4, 1, "optimal, value 2, X 2")
	answersBest(t, problems("min x st bounds x free"), 1, -1, nothing)
	if l, err := crew.All(nil, 0); err != api.ErrArg || len(l) != 0 {
		t.Errorf("All of nothing by 0: %q, %v", l, err)
	}
	if l, err := crew.All([]string{x}, 17); err != api.ErrArg || len(l) != 0 {
		t.Errorf("All by 17: %q, %v", l, err)
	}
	if at, err := crew.First([]string{x}, 1, 5); err != api.ErrVerdict || at != 0 {
		t.Errorf("First of the verdict 5: %d, %v", at, err)
	}
	if at, err := crew.First([]string{x}, 0, 5); err != api.ErrArg || at != 0 {
		t.Errorf("First by 0, of the verdict 5: %d, %v", at, err)
	}
}

// The texts of these tests have the answers that they are taken for, however slow they are.
func TestTextsOfTheTests(t *testing.T) {
	for text, want := range map[string]string{
		x: answerX, y: answerY, z: answerZ, none: answerNone, stopped: answerStopped,
		slow(api.Optimal): answerX, slow(api.Unbounded): answerY, slow(api.Infeasible): answerNone, slow(api.Stopped): answerStopped,
		slow(0): "error 1:18006: vertex: something else is due here\n",
	} {
		if got := alone(text); got != want {
			t.Errorf("%.99q: %q, want %q", text, got, want)
		}
	}
}

// P20.1, P20.3, P20.4: how many workers may not be, whatever there is to solve; the very value, and nothing beside it.
func TestWrongCrews(t *testing.T) {
	for _, workers := range wrongCrews() {
		for _, texts := range [][]string{nil, {}, {x}, {z, y, x, none}} {
			if l, err := crew.All(texts, workers); err != api.ErrArg || len(l) != 0 {
				t.Errorf("All(%q, %d) = %q, %v", texts, workers, l, err)
			}
			for _, verdict := range append(verdicts(), wrongVerdicts()...) {
				if at, err := crew.First(texts, workers, verdict); err != api.ErrArg || at != 0 {
					t.Errorf("First(%q, %d, %d) = %d, %v", texts, workers, verdict, at, err)
				}
			}
		}
		for _, l := range [][]api.Problem{nil, {}, {{}}, problems("max x st bounds x <= 3", "min x st bounds x free")} {
			if at, c, err := crew.Best(l, workers); err != api.ErrArg || at != 0 || !isZero(c) {
				t.Errorf("Best(%d problems, %d) = %d, %s, %v", len(l), workers, at, told(c), err)
			}
		}
	}
}

// P20.3: verdicts that are none of the four, whatever there is to solve.
func TestWrongVerdicts(t *testing.T) {
	for _, workers := range []int{1, 2, 15, 16} {
		for _, verdict := range wrongVerdicts() {
			for _, texts := range [][]string{nil, {}, {x}, {z, y, x, none}} {
				if at, err := crew.First(texts, workers, verdict); err != api.ErrVerdict || at != 0 {
					t.Errorf("First(%q, %d, %d) = %d, %v", texts, workers, verdict, at, err)
				}
			}
		}
	}
}

// P20.1: nothing to solve, one text, fewer texts than workers, as many, and more.
func TestAll(t *testing.T) {
	for _, workers := range crews() {
		for _, n := range []int{0, 1, 2, workers - 1, workers, workers + 1, 3*workers + 2} {
			var texts, want []string
			for k := range n {
				texts = append(texts, fmt.Sprintf("min x st x >= %d/7 end", k+1))
				want = append(want, fmt.Sprintf("optimal\nvalue %s\nvar x %[1]s\nrow R1 1\nend\n", sevenths(k+1)))
			}
			answersAll(t, texts, workers, want)
		}
		answersAll(t, []string{none, z, x, y, x}, workers, []string{answerNone, answerZ, answerX, answerY, answerX})
	}
}

// sevenths tells so many of them in lowest terms.
func sevenths(n int) string {
	if n%7 == 0 {
		return fmt.Sprint(n / 7)
	}
	return fmt.Sprintf("%d/7", n)
}

// P20.1, P20.2: the order is that of the texts, though those behind are done first, wherever the slow ones stand.
func TestAllInOrder(t *testing.T) {
	fast := []string{x, z, y, none, y, x, none, z, x, y}
	answers := allAlone(fast)
	for _, workers := range []int{1, 2, 3, 8, 16} {
		for _, at := range []int{0, 4, 10} {
			texts := slices.Insert(slices.Clone(fast), at, stopped, slow(api.Optimal))
			answersAll(t, texts, workers, slices.Insert(slices.Clone(answers), at, answerStopped, answerX))
		}
		slowFirst := append([]string{slow(api.Unbounded), slow(0), slow(api.Infeasible)}, fast...)
		answersAll(t, slowFirst, workers, append([]string{answerY, alone(slow(0)), answerNone}, answers...))
	}
}

// P20.1: texts that can't be read, in whatever way, and whatever bytes.
func TestAllOfWrongTexts(t *testing.T) {
	texts := []string{
		"", "\n\n", "min", "\x00", "\xff\xfe", "max x st\n x <= y end", "min st 1 <= x\n >= 0 end", "max a: x st a: x <= 1 end",
		"max x st x <= * end", "max x st\nx <= . end", "max 1e10000 x st end", "max x st x <= 3/0 end", "min x st int x end", "ENDATA\n", answerX, x + " x",
	}
	want := []string{
		"1:1: vertex: something else is due here", "3:1: vertex: something else is due here", "1:4: vertex: something else is due here", "1:1: vertex: a byte that begins nothing",
		"1:1: vertex: a byte that begins nothing", "2:7: vertex: names on both sides", "2:2: vertex: two signs that do not go together", "1:13: vertex: a name twice",
		"1:15: vertex: a byte that begins nothing", "2:6: vertex: no number", "1:5: vertex: an exponent above the bound", "1:15: vertex: divided by nought",
		"vertex: a whole variable without both bounds", "1:1: vertex: something else is due here", "1:1: vertex: something else is due here", "1:21: vertex: something else is due here",
	}
	for k := range want {
		want[k] = "error " + want[k] + "\n"
	}
	for _, workers := range []int{1, 4, 16} {
		answersAll(t, texts, workers, want)
		for _, verdict := range verdicts() {
			answersFirst(t, texts, workers, verdict, -1)
			answersFirst(t, append(slices.Clone(texts), textOf(verdict)), workers, verdict, len(texts))
		}
	}
}

// P20.3: of each verdict, with the first such text at the beginning, in the midst, at the end and nowhere, and with others behind it.
func TestFirst(t *testing.T) {
	for _, verdict := range verdicts() {
		others := []string{z}
		for _, other := range verdicts() {
			if other != verdict && other != api.Stopped {
				others = append(others, textOf(other), textOf(other))
			}
		}
		for _, workers := range crewsFor(verdict) {
			for _, at := range []int{0, 3, len(others)} {
				texts := slices.Insert(slices.Clone(others), at, textOf(verdict))
				answersFirst(t, texts, workers, verdict, at)
				answersFirst(t, append(texts, textOf(verdict), z, textOf(verdict)), workers, verdict, at)
			}
			answersFirst(t, others, workers, verdict, -1)
			answersFirst(t, nil, workers, verdict, -1)
			answersFirst(t, []string{textOf(verdict)}, workers, verdict, 0)
			answersFirst(t, []string{z}, workers, verdict, -1)
		}
	}
}

// P20.3: the first one is told by its place, not by when it is done: it may be slower than another one behind it; and slow ones ahead of it, which have another verdict, don't hide it.
func TestFirstOfSlowTexts(t *testing.T) {
	for _, verdict := range verdicts() {
		quick := textOf(verdict)
		for _, workers := range crewsFor(api.Stopped) {
			answersFirst(t, []string{slow(verdict), quick, quick}, workers, verdict, 0)
			answersFirst(t, []string{z, z, slow(verdict), z, quick, z}, workers, verdict, 2)
			answersFirst(t, []string{slow(0), z, quick, z, quick}, workers, verdict, 2)
			answersFirst(t, []string{z, quick, slow(0), slow(verdict), z}, workers, verdict, 1)
			answersFirst(t, []string{slow(0), z, slow(0), z}, workers, verdict, -1)
		}
	}
	answersFirst(t, []string{stopped, stopped, slow(api.Unbounded), stopped, x, x, y, x, stopped, z}, 16, api.Unbounded, 2)
	answersFirst(t, []string{stopped, slow(api.Unbounded), stopped, x, slow(api.Infeasible), none, y, x}, 3, api.Infeasible, 4)
}

// P20.3: a verdict is what an answer's first line says, whatever names there are.
func TestFirstGoesByTheFirstLine(t *testing.T) {
	texts := []string{
		"max optimal + infeasible + stopped st end",
		"min unbounded st infeasible: unbounded >= 1 stopped: unbounded >= 0 end",
		"min stopped st optimal: stopped >= 2 unbounded: stopped <= 1 end",
	}
	for k, verdict := range []int{api.Unbounded, api.Optimal, api.Infeasible, api.Stopped} {
		answersFirst(t, texts, 2, verdict, []int{0, 1, 2, -1}[k])
	}
	// Where variables must be whole.
	whole := []string{"max x st 2 x <= 5 bounds x <= 10 general x end", "max x + y st bounds x <= 3/2 int x end", "min x st bounds 1/3 <= x <= 2/3 int x end", "min x st int x end", stopped}
	for k, verdict := range []int{api.Optimal, api.Unbounded, api.Infeasible} {
		answersFirst(t, whole, 3, verdict, k)
	}
	answersFirst(t, whole, 3, api.Stopped, 4)
}

// P20.4: problems of both senses, by their values alone.
func TestBest(t *testing.T) {
	for _, workers := range crews() {
		best := func(want int, cert string, texts ...string) {
			t.Helper()
			answersBest(t, problems(texts...), workers, want, cert)
		}
		best(2, "optimal, value -5, X -5", "min x st bounds x >= 3", "max x st bounds x <= 2", "max x st bounds -inf <= x <= -5", "min x st bounds x >= -4")
		// Of several with the least value the first one, with its own certificate.
		best(1, "optimal, value 2, X 3, Y 1", "min 4 x st bounds x >= 1", "max x - 1 st c: x <= 3", "min x st bounds x >= 2", "min x st c: 2 x >= 4")
		best(0, "optimal, value 0, X 0", "min x st", "min x st", "min x st")
		best(3, "optimal, value -1/2, X 1/2", "min st", "max st 0 <= 1", "min x st", "min -x st bounds x <= 1/2", "max x - 1 st bounds x <= 1/2")
		// Fractions; values below nought.
		best(1, "optimal, value 1/3, X 1, Y 1/3", "min 2/5 x st c: x >= 1", "min 1/3 x st c: x >= 1", "min 3/8 x st c: x >= 1")
		best(2, "optimal, value -7/2, X 0", "min x - 10/3 st", "min x - 17/5 st", "min x - 7/2 st", "min x + 1000 st")
		best(0, "optimal, value 7", "min 7 st")
		// Numbers of more than one limb.
		best(2, "optimal, value -36893488147419103233", "min -18446744073709551617 st", "min -36893488147419103232 st", "min -36893488147419103233 st", "max 36893488147419103234 st")
	}
}

// P20.4: those that aren't optimal don't count, wherever they stand; whole variables are taken as any.
func TestBestOfSomeWithoutValue(t *testing.T) {
	unbounded, infeasible := "min x st bounds x free", "min x - 100 st c: x >= 2 bounds x <= 1"
	for _, workers := range crews() {
		answersBest(t, nil, workers, -1, nothing)
		answersBest(t, []api.Problem{}, workers, -1, nothing)
		answersBest(t, problems(unbounded), workers, -1, nothing)
		answersBest(t, problems(infeasible), workers, -1, nothing)
		answersBest(t, problems(infeasible, unbounded, unbounded, infeasible, "max x st"), workers, -1, nothing)
		answersBest(t, problems(infeasible, unbounded, "min x + 5 st", unbounded, "min 4 st", infeasible), workers, 4, "optimal, value 4")
		answersBest(t, problems("min 4 + x st", unbounded, infeasible), workers, 0, "optimal, value 4, X 0")
		answersBest(t, problems("min x st bounds 1/2 <= x <= 3 int x", "min x st bounds 1 <= x <= 3"), workers, 0, "optimal, value 1/2, X 1/2")
		answersBest(t, []api.Problem{{}, {Max: true}}, workers, 0, "optimal, value 0")
	}
}

// P20.4, P20.2: of several with the least value the first one, though it is done last.
func TestBestOfSlowProblems(t *testing.T) {
	for _, workers := range []int{1, 2, 3, 16} {
		fast := problems("min x + 7 st", "min x + 5 st", "max x st", "min x + 5 st")
		answersBest(t, append([]api.Problem{slowProblem(5, 20000)}, fast...), workers, 0, "optimal, value 5, X 5, Y 0")
		answersBest(t, append([]api.Problem{slowProblem(6, 20000), slowProblem(7, 20000)}, fast...), workers, 3, "optimal, value 5, X 0")
		answersBest(t, append(slices.Clone(fast), slowProblem(5, 20000), slowProblem(4, 20000)), workers, 5, "optimal, value 4, X 4, Y 0")
	}
}

// P20.1: long texts, long names, and many texts.
func TestManyAndLongTexts(t *testing.T) {
	name := strings.Repeat("n", 3000)
	var texts, want []string
	for k := range 2000 {
		texts, want = append(texts, fmt.Sprintf("max %d %s%d st end", k+1, name, k)), append(want, fmt.Sprintf("unbounded\nvar %s%d 0 1\nend\n", name, k))
	}
	got, err := crew.All(texts, 16)
	if err != nil || !slices.Equal(got, want) {
		t.Errorf("%d answers, %v", len(got), err)
	}
	texts[1999] = x
	answersFirst(t, texts, 16, api.Optimal, 1999)
	answersFirst(t, texts, 1, api.Infeasible, -1)
}
