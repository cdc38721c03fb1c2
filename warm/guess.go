package warm

import (
	"vertex/api"
)

// Guess proposes a basis, by floats: P16.7. It goes the way of climb.Run, as far as floats can tell it.
func Guess(s api.Standard) []int {
	k := sketchOf(s)
	k.rise(k.artificialCost)
	if k.isMet() {
		k.driveOut()
		k.rise(k.cost)
	}
	return k.basis()
}

// rise pivots by Bland's rule as long as it can, but not for ever: rounded numbers may lead round and round.
func (k *sketch) rise(cost func(column int) float64) {
	often := k.patience()
way:
	for round := 0; ; round++ {
		j := k.enter(cost)
		i := k.leave(j)
		switch {
		case round == often, j == none, i == none:
			break way
		default:
			k.pivot(i, j)
		}
	}
}

// patience tells how often a rise goes round: some times as often as there are rows and columns, which is more than it takes but for standards that were made to take long.
func (k *sketch) patience() int { return 100 + 20*(k.own+len(k.rows)) }
