package rtl

import (
	"cotter/api"
	"cotter/flow"
	"cotter/world"
)

// areTheirs is of modules that go together. As no name comes twice, and each is one of theirs, it is enough to count.
func areTheirs(l []api.Module, f []api.Func) bool {
	given, bodies := world.Given(l), 0
	for _, d := range given {
		if flow.IsBody(d) {
			bodies++
		}
	}
	names, count := flow.NamesOf(given), map[string]int{}
	for _, one := range f {
		count[one.Name]++
		if count[one.Name] > 1 || !names.MayBe(one) {
			return false
		}
	}
	return len(f) == bodies
}
