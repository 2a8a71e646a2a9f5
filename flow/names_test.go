package flow_test

import (
	"testing"

	"cotter/api"
	"cotter/flow"
)

var decls = []api.Decl{
	{Kind: api.DeclLock, Name: "l"}, {Kind: api.DeclTicket, Name: "k"}, {Kind: api.DeclQueue, Name: "q", N: 1}, {Kind: api.DeclInt, Name: "x", By: "l"}, {Kind: api.DeclInt, Name: "a", N: 2, By: "l"},
	{Kind: api.DeclFunc, Name: "f", Count: 2, Rank: 1}, {Kind: api.DeclFunc, Name: "g", Count: 1, Rank: 9, Extern: true}, {Kind: api.DeclThread, Name: "t"},
}

// What hangs on names: which kinds operations name, ranks, how many arguments and parameters.
func TestNames(t *testing.T) {
	names := flow.NamesOf(decls)
	may := map[int]string{api.OpLoad: "x", api.OpStore: "x", api.OpCall: "f", api.OpGet: "q", api.OpPut: "q", api.OpAcq: "lk", api.OpRel: "lk"}
	for op, right := range may {
		for _, name := range []string{"l", "k", "q", "x", "a", "f", "g", "t", "", "none"} {
			f := api.Func{Name: "t", Temps: 1, Code: []api.Op{{Op: op, Name: name, A: -1, Args: []int{0, 0}}, {Op: api.OpEnd}}}
			want := name == "l" && right == "lk" || name == "k" && right == "lk" || name == right
			if names.MayBe(f) != want {
				t.Errorf("%d of %q: want %v", op, name, want)
			}
		}
	}
	last := func(name string, params int, o api.Op) api.Func {
		return api.Func{Name: name, Params: params, Temps: 3, Code: []api.Op{o}}
	}
	body := func(name string, params int, o api.Op) api.Func {
		return api.Func{Name: name, Params: params, Temps: 3, Code: []api.Op{o, {Op: api.OpTrap, N: 1}}}
	}
	for i, c := range []struct {
		f    api.Func
		want bool
	}{
		{last("t", 0, api.Op{Op: api.OpEnd}), true}, {last("t", 0, api.Op{Op: api.OpRet}), false}, {last("t", 1, api.Op{Op: api.OpEnd}), false},
		{last("f", 2, api.Op{Op: api.OpRet}), true}, {last("f", 2, api.Op{Op: api.OpEnd}), false}, {last("f", 1, api.Op{Op: api.OpRet}), false}, {last("f", 3, api.Op{Op: api.OpRet}), false},
		{last("x", 0, api.Op{Op: api.OpTrap, N: 1}), false}, {last("none", 0, api.Op{Op: api.OpTrap, N: 1}), false},
		{body("t", 0, api.Op{Op: api.OpLoad, Name: "a", A: 0}), true}, {body("t", 0, api.Op{Op: api.OpLoad, Name: "a", A: -1}), false}, {body("t", 0, api.Op{Op: api.OpStore, Name: "x", A: 0}), false}, {body("t", 0, api.Op{Op: api.OpStore, Name: "a", A: 2}), true},
		{body("t", 0, api.Op{Op: api.OpCall, Name: "g", Args: []int{0}}), true}, {body("g", 1, api.Op{Op: api.OpCall, Name: "f", Args: []int{0, 1}}), true}, {body("f", 2, api.Op{Op: api.OpCall, Name: "g", Args: []int{0}}), false}, {body("f", 2, api.Op{Op: api.OpCall, Name: "f", Args: []int{0, 0}}), false},
		{body("t", 0, api.Op{Op: api.OpCall, Name: "f", Args: []int{0}}), false}, {body("t", 0, api.Op{Op: api.OpCall, Name: "f", Args: []int{0, 0, 0}}), false}, {body("t", 0, api.Op{Op: api.OpCall, Name: "t"}), false},
		{body("t", 0, api.Op{Op: api.OpPrint, A: 3}), false}, {body("t", 0, api.Op{Op: api.OpPrint, A: 2, Name: "none"}), true},
	} {
		if names.MayBe(c.f) != c.want {
			t.Errorf("case %d: %+v: want %v", i, c.f, c.want)
		}
	}
	for _, d := range decls {
		if want := d.Name == "f" || d.Name == "g" || d.Name == "t"; flow.IsBody(d) != want {
			t.Errorf("%+v: want %v", d, want)
		}
	}
}
