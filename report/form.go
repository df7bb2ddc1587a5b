package report

import "stockade/api"

// One step more than any fuel is in form: the document's bound, not that of a run.
const maxSteps = api.MaxFuel + 1

func within(n, least, most int) bool {
	return least <= n && n <= most
}

func endInForm(e api.End) bool {
	switch e.Outcome {
	case api.Faulted:
		return faultInForm(e)
	case api.Finished, api.Deadlock, api.FuelOut:
		return e == api.End{Outcome: e.Outcome}
	}
	return false
}

func faultInForm(e api.End) bool {
	return within(e.Fault, api.FaultZero, api.FaultFail) &&
		within(e.G, 0, api.MaxGo-1) &&
		within(e.At, 0, api.MaxText) &&
		(e.Fault == api.FaultFail || e.N == 0)
}

// racesInForm needs no count of the races: places that rise are no more than there are.
func racesInForm(races []api.Race) bool {
	least := 0
	for _, c := range races {
		if !within(c.Place, least, api.MaxPlaces-1) || !raceInForm(c) {
			return false
		}
		least = c.Place + 1
	}
	return true
}

func raceInForm(c api.Race) bool {
	return within(c.First, 0, api.MaxText) && within(c.Second, 0, api.MaxText) && (c.FirstW || c.SecondW)
}
