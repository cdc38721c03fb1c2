package crew_test

import (
	"runtime"
	"slices"
	"strings"
	"testing"
	"time"

	"vertex/api"
	"vertex/crew"
)

// stacks tells where each goroutine is.
func stacks() []string {
	for b := make([]byte, 1<<18); ; b = make([]byte, 2*len(b)) {
		if n := runtime.Stack(b, true); n < len(b) {
			return strings.Split(string(b[:n]), "\n\n")
		}
	}
}

// solving counts the goroutines that are solving something just now.
func solving() (n int) {
	for _, s := range stacks() {
		if strings.Contains(s, "\nvertex/solve.Solve(") || strings.Contains(s, "\nvertex/back.Solve(") {
			n++
		}
	}
	return n
}

// left counts the goroutines that the package has begun and that aren't gone.
func left() (n int) {
	for _, s := range stacks() {
		if strings.Contains(s, "created by vertex/crew.") {
			n++
		}
	}
	return n
}

// hasEnded asks, behind a call, whether nobody solves any more, and whether nobody is left. Who has said that it ends may still be on its last step, so that is waited for.
func hasEnded(t *testing.T, name string) {
	t.Helper()
	if n := solving(); n > 0 {
		t.Errorf("%s: %d are solving when the call has answered", name, n)
	}
	for range 5000 {
		if left() == 0 {
			return
		}
		time.Sleep(time.Millisecond)
	}
	t.Errorf("%s: %d are left", name, left())
}

// most tells how many were solving at once, at most, while a call went on.
func most(call func()) (n int) {
	stop, counted := make(chan struct{}), make(chan int)
	go func() {
		n := 0
		for {
			select {
			case <-stop:
				counted <- n
				return
			default:
				n = max(n, solving())
				time.Sleep(200 * time.Microsecond)
			}
		}
	}()
	call()
	close(stop)
	return <-counted
}

// P20.2: never more than there are workers solve at once, and so many do, if each has enough to solve. When the call has answered, all of them have ended.
func TestSoManyAtMost(t *testing.T) {
	for _, workers := range []int{1, 2, 5, 16} {
		texts := slices.Repeat([]string{stopped}, workers+1)
		answers := slices.Repeat([]string{answerStopped}, workers+1)
		slowOnes := slices.Repeat([]api.Problem{slowProblem(2, 100000)}, workers+1)
		for name, call := range map[string]func(){
			"All":   func() { answersAll(t, texts, workers, answers) },
			"First": func() { answersFirst(t, texts, workers, api.Optimal, -1) },
			"Best":  func() { answersBest(t, slowOnes, workers, 0, "optimal, value 2, X 2, Y 0") },
		} {
			// Who looks may be late, on a machine that has much to do.
			seen := 0
			for try := 0; try < 10 && seen < workers; try++ {
				seen = max(seen, most(call))
				hasEnded(t, name)
			}
			if seen != workers {
				t.Errorf("%s: %d solve side by side, want %d", name, seen, workers)
			}
		}
	}
}

// P20.2: fewer things to solve than workers, and nothing to solve.
func TestMoreWorkersThanTexts(t *testing.T) {
	for n := range 4 {
		texts := slices.Repeat([]string{slow(api.Infeasible)}, n)
		answers := allAlone(texts)
		if seen := most(func() { answersAll(t, texts, 16, answers) }); seen > n {
			t.Errorf("%d texts: %d solve side by side", n, seen)
		}
		hasEnded(t, "All")
		answersFirst(t, texts, 16, api.Stopped, -1)
		hasEnded(t, "First")
		l := slices.Repeat([]api.Problem{slowProblem(1, 20000)}, n)
		if at, _, err := crew.Best(l, 16); at != min(n, 1)-1 || err != nil {
			t.Errorf("Best of %d: %d, %v", n, at, err)
		}
		hasEnded(t, "Best")
	}
}

// P20.2, P20.3: all have ended, too, when First leaves early, while those behind are still at their texts.
func TestFirstLeavesEarly(t *testing.T) {
	for _, workers := range []int{1, 2, 3, 8, 15, 16} {
		for at := range 3 {
			texts := append(append(slices.Repeat([]string{y}, at), x), slices.Repeat([]string{slow(api.Infeasible)}, 18)...)
			answersFirst(t, texts, workers, api.Optimal, at)
			hasEnded(t, "First")
		}
	}
}

// P20.3: once First knows, it doesn't go on: this many texts behind would take hours.
func TestFirstDoesNotGoOn(t *testing.T) {
	texts := append([]string{none, x}, slices.Repeat([]string{stopped}, 200000)...)
	for _, workers := range []int{1, 16} {
		done := make(chan struct{})
		go func() {
			answersFirst(t, texts, workers, api.Optimal, 1)
			close(done)
		}()
		select {
		case <-done:
			hasEnded(t, "First")
		case <-time.After(time.Minute):
			t.Fatal("First has not left")
		}
	}
}

// P20.2: nobody is left behind an error either.
func TestNobodyIsLeftBehindAnError(t *testing.T) {
	texts, l := slices.Repeat([]string{slow(api.Optimal)}, 20), slices.Repeat([]api.Problem{slowProblem(1, 20000)}, 20)
	for _, workers := range wrongCrews() {
		if _, err := crew.All(texts, workers); err != api.ErrArg {
			t.Error(err)
		}
		if _, err := crew.First(texts, workers, api.Optimal); err != api.ErrArg {
			t.Error(err)
		}
		if _, _, err := crew.Best(l, workers); err != api.ErrArg {
			t.Error(err)
		}
	}
	for _, verdict := range wrongVerdicts() {
		if _, err := crew.First(texts, 16, verdict); err != api.ErrVerdict {
			t.Error(err)
		}
	}
	hasEnded(t, "an error")
}

// P20.2: many calls leave nobody behind.
func TestManyCalls(t *testing.T) {
	for k := range 500 {
		workers := 1 + k%16
		answersAll(t, []string{x, y, z}, workers, []string{answerX, answerY, answerZ})
		answersFirst(t, []string{z, y, x, y, x, x}, workers, api.Unbounded, 1)
		answersBest(t, problems("min 2 st", "max 1 st", "min 3 st"), workers, 1, "optimal, value 1")
	}
	hasEnded(t, "many calls")
}

// R4: many may call at the same time, with the same lists and with others, and don't disturb one another.
func TestCalledSideBySide(t *testing.T) {
	r := chances(205)
	texts, l := append(r.texts(24), slow(api.Optimal), x, z, y, none), append(r.problems(24), slowProblem(-9, 20000), slowProblem(2, 20000))
	answers := allAlone(texts)
	best, cert := bestOf(certsOf(l))
	done := make(chan struct{})
	for k := range 12 {
		workers, own := 1+r.Intn(16), r.texts(12)
		go func() {
			defer func() { done <- struct{}{} }()
			for range 3 {
				answersAll(t, texts, workers, answers)
				answersAll(t, own, workers, allAlone(own))
				for _, verdict := range verdicts() {
					answersFirst(t, texts, 1+(workers+k)%16, verdict, firstOf(answers, verdict))
				}
				answersBest(t, l, workers, best, told(cert))
			}
		}()
	}
	for range 12 {
		<-done
	}
	hasEnded(t, "calls side by side")
}
