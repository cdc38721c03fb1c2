package warm

import (
	"math"
	"slices"

	"vertex/api"
	"vertex/near"
)

// sketch is a standard laid out in floats, as a board lays it out in fractions. Its artificial columns have no numbers, as they never come back.
type sketch struct {
	own   int // how many columns are the standard's; the artificial ones stand behind them
	rows  []sketchRow
	costs []float64
}

// sketchRow is a row of a sketch: an equation of its columns.
type sketchRow struct {
	numbers line
	right   float64
	basic   int
}

func sketchOf(s api.Standard) *sketch {
	k := &sketch{own: len(s.C)}
	for _, c := range s.C {
		k.costs = append(k.costs, finite(c))
	}
	for i, right := range s.B {
		r := sketchRow{right: finite(right), basic: k.own + i}
		if i < len(s.A) {
			for j, a := range s.A[i][:min(len(s.A[i]), k.own)] {
				r.numbers = r.numbers.with(j, finite(a))
			}
		}
		if r.right < 0 {
			r.divide(-1)
		}
		k.rows = append(k.rows, r)
	}
	return k
}

// finite gives the nearest finite float.
func finite(a api.Rat) float64 {
	f, _ := near.Float(a)
	return min(max(f, -math.MaxFloat64), math.MaxFloat64)
}

// divide divides the whole equation.
func (r *sketchRow) divide(by float64) {
	r.numbers.divide(by)
	r.right /= by
}

// isHeld tells whether an artificial column is a row's basic one.
func (k *sketch) isHeld(r sketchRow) bool { return r.basic >= k.own }

// artificialCost is what a column costs as long as points are looked for.
func (k *sketch) artificialCost(column int) float64 {
	if column < k.own {
		return 0
	}
	return 1
}

// cost is what a column costs in the standard.
func (k *sketch) cost(column int) float64 {
	if column < k.own {
		return k.costs[column]
	}
	return 0
}

// enter gives the least column whose reduced cost is below nought; none, if there is none. Those of basic columns are nought, as these have just 1 in their rows.
func (k *sketch) enter(cost func(column int) float64) int {
	reduced := make([]tally, k.own)
	for j := range reduced {
		reduced[j].add(cost(j))
	}
	for _, r := range k.rows {
		if c := cost(r.basic); c != 0 {
			for _, e := range r.numbers {
				reduced[e.column].add(-c * e.number)
			}
		}
	}
	return slices.IndexFunc(reduced, func(t tally) bool { return t.left() < 0 })
}

// leave gives the row with the least ratio in a column, of several the one with the least basic column; none, if there is none.
func (k *sketch) leave(column int) int {
	found := none
	var least float64
	for i, r := range k.rows {
		a := r.numbers.at(column)
		// What became too great for floats may be NaN, which is no pivot either.
		if !(a > 0) {
			continue
		}
		ratio := r.right / a
		if found == none || ratio < least || ratio == least && r.basic < k.rows[found].basic {
			found, least = i, ratio
		}
	}
	return found
}

// pivot brings a column into the basis in a row.
func (k *sketch) pivot(i, column int) {
	r := &k.rows[i]
	r.divide(r.numbers.at(column))
	r.basic = column
	for other := range k.rows {
		if times := k.rows[other].numbers.at(column); other != i && times != 0 {
			k.rows[other].takeAway(*r, times)
		}
	}
}

// takeAway takes another row away so many times.
func (r *sketchRow) takeAway(other sketchRow, times float64) {
	r.numbers = r.numbers.less(other.numbers, times)
	r.right = takenAway(r.right, other.right, times)
}

// isMet tells whether the rows that are still held could be met by noughts.
func (k *sketch) isMet() bool {
	return !slices.ContainsFunc(k.rows, func(r sketchRow) bool { return k.isHeld(r) && r.right != 0 })
}

// driveOut takes the artificial columns out of the rows that they still hold; a row without numbers keeps its own, and counts for nothing from then on.
func (k *sketch) driveOut() {
	for i := range k.rows {
		if r := k.rows[i]; k.isHeld(r) && len(r.numbers) > 0 {
			k.pivot(i, r.numbers[0].column)
		}
	}
}

// basis gives the basic columns, artificial ones aside, rising.
func (k *sketch) basis() (columns []int) {
	for _, r := range k.rows {
		if !k.isHeld(r) {
			columns = append(columns, r.basic)
		}
	}
	slices.Sort(columns)
	return columns
}
