package check

import "cotter/api"

// must throws an error where something does not hold: Module and Fit recover it.
func must(ok bool, e api.Errno) {
	if !ok {
		panic(e)
	}
}

// byName is also how two of one name are found.
func byName(l []api.Decl) map[string]api.Decl {
	names := map[string]api.Decl{}
	for _, d := range l {
		_, twice := names[d.Name]
		must(!twice, api.ErrDuplicate)
		names[d.Name] = d
	}
	return names
}

// goTogether is asked of modules that hold by themselves. All are asked for one thing ahead of the next, as their errors have that order.
func goTogether(l []api.Module) {
	gives, needs := sides(l)
	given := byName(gives)
	for _, d := range needs {
		_, ok := given[d.Name]
		must(ok, api.ErrUndefined)
	}
	for _, d := range needs {
		must(alike(d, given[d.Name]), api.ErrInterface)
	}
	n := threads(gives)
	must(n >= 1 && n <= api.MaxThreads, api.ErrLarge)
}

// sides are the faces of all that modules give, and of all that they need.
func sides(l []api.Module) (gives, needs []api.Decl) {
	for _, m := range l {
		for _, d := range Face(m) {
			if d.Extern {
				needs = append(needs, d)
			} else {
				gives = append(gives, d)
			}
		}
	}
	return gives, needs
}

// alike compares two faces of one name.
func alike(a, b api.Decl) bool {
	return a.Kind == b.Kind && a.N == b.N && a.By == b.By && a.Count == b.Count && a.Rank == b.Rank
}

func threads(l []api.Decl) int {
	n := 0
	for _, d := range l {
		if d.Kind == api.DeclThread {
			n++
		}
	}
	return n
}
