package move

import (
	"tinderbox/api"
	"tinderbox/glyph"
	"tinderbox/step"
)

// The tables that moves leave alone: layers above keep there which moves were made, and settings.
const (
	marks    = "moves"
	settings = "settings"
)

// isRight: may it be a move?
func isRight(m api.Move) bool {
	return glyph.IsWord(m.ID) && needsMayBe(m) && stepsMayBe(m.Steps)
}

func needsMayBe(m api.Move) bool {
	if len(m.Needs) > api.MaxNeeds {
		return false
	}
	for i, need := range m.Needs {
		rises := i == 0 || m.Needs[i-1] < need
		if !glyph.IsWord(need) || need == m.ID || !rises {
			return false
		}
	}
	return true
}

func stepsMayBe(steps []api.Step) bool {
	if len(steps) < 1 || len(steps) > api.MaxSteps {
		return false
	}
	for _, s := range steps {
		if !step.Right(s) || speaks(s, marks) || speaks(s, settings) {
			return false
		}
	}
	return true
}

// speaks: does a step speak of a table?
func speaks(s api.Step, table string) bool {
	return s.Table == table || s.Kind == api.StepTable && s.To == table
}
