package alloc_test

import (
	"math"
	"math/rand"
	"slices"
	"strings"

	"cotter/api"
)

// has is chapter 18's table: the fields of each operation. What is not named counts for nothing.
var has = map[int]string{
	api.OpConst: "D N", api.OpCopy: "D A", api.OpBin: "D A B What", api.OpLoad: "D A Name", api.OpStore: "A B Name", api.OpCall: "D Name Args", api.OpGet: "D Name", api.OpPut: "D B Name",
	api.OpAcq: "Name", api.OpRel: "Name", api.OpJump: "To", api.OpIf: "A To", api.OpPrint: "A", api.OpRet: "A", api.OpEnd: "", api.OpTrap: "N",
}

func one(op int, l ...int) bool { return slices.Contains(l, op) }

// modelMayDo holds an operation against the table, but for what hangs on names.
func modelMayDo(o api.Op, temps, ops int) bool {
	fields, ok := has[o.Op]
	temp := func(n int, orNone bool) bool { return 0 <= n && n < temps || orNone && n == -1 }
	for _, name := range strings.Fields(fields) {
		switch name {
		case "D":
			ok = ok && temp(o.D, one(o.Op, api.OpCall, api.OpGet, api.OpPut))
		case "A":
			ok = ok && temp(o.A, one(o.Op, api.OpLoad, api.OpStore))
		case "B":
			ok = ok && temp(o.B, false)
		case "What":
			ok = ok && 3 <= o.What && o.What <= 16
		case "Args":
			for _, a := range o.Args {
				ok = ok && temp(a, false)
			}
		case "To":
			ok = ok && 0 <= o.To && o.To < ops
		case "N":
			ok = ok && (o.Op == api.OpConst || 1 <= o.N && o.N <= 127)
		}
	}
	return ok
}

func modelMayBe(f api.Func) bool {
	n := len(f.Code)
	if f.Params < 0 || f.Params > f.Temps || f.Temps > 400 || n < 1 || n > 20000 {
		return false
	}
	for _, o := range f.Code {
		if !modelMayDo(o, f.Temps, n) {
			return false
		}
	}
	return one(f.Code[n-1].Op, api.OpJump, api.OpRet, api.OpEnd, api.OpTrap)
}

// modelWrites, modelReads and modelNext are as the chapter has them.
func modelWrites(o api.Op) int {
	if one(o.Op, api.OpConst, api.OpCopy, api.OpBin, api.OpLoad, api.OpCall, api.OpGet, api.OpPut) {
		return o.D
	}
	return -1
}

func modelReads(o api.Op, temp int) bool {
	switch {
	case one(o.Op, api.OpCopy, api.OpBin, api.OpIf, api.OpPrint, api.OpRet) && o.A == temp:
		return true
	case one(o.Op, api.OpLoad, api.OpStore) && o.A != -1 && o.A == temp:
		return true
	case one(o.Op, api.OpBin, api.OpStore, api.OpPut) && o.B == temp:
		return true
	}
	return o.Op == api.OpCall && slices.Contains(o.Args, temp)
}

func modelNext(code []api.Op, at int) []int {
	var l []int
	if !one(code[at].Op, api.OpJump, api.OpRet, api.OpEnd, api.OpTrap) {
		l = append(l, at+1)
	}
	if one(code[at].Op, api.OpJump, api.OpIf) {
		l = append(l, code[at].To)
	}
	return l
}

// modelLive follows all ways from a place on.
func modelLive(code []api.Op, at, temp int, seen map[int]bool) bool {
	if seen[at] {
		return false
	}
	seen[at] = true
	if modelReads(code[at], temp) {
		return true
	}
	return modelWrites(code[at]) != temp && modelBehind(code, at, temp, seen)
}

func modelBehind(code []api.Op, at, temp int, seen map[int]bool) bool {
	for _, i := range modelNext(code, at) {
		if modelLive(code, i, temp, seen) {
			return true
		}
	}
	return false
}

// modelLives is what Live is to answer.
func modelLives(f api.Func) (behind [][]int, first []int) {
	behind = make([][]int, len(f.Code))
	for temp := range f.Temps {
		for at := range f.Code {
			if modelBehind(f.Code, at, temp, map[int]bool{}) {
				behind[at] = append(behind[at], temp)
			}
		}
		if modelLive(f.Code, 0, temp, map[int]bool{}) {
			first = append(first, temp)
		}
	}
	return behind, first
}

// modelRight is the chapter's three rules, of a function that may be.
func modelRight(f api.Func, a api.Alloc) bool {
	if len(a.Where) != f.Temps || a.Slots < 0 || a.Slots > 400 {
		return false
	}
	for _, p := range a.Where {
		if !(1 <= p && p <= 4 || 8 <= p && p <= 7+a.Slots) {
			return false
		}
	}
	behind, first := modelLives(f)
	for at, o := range f.Code {
		d := modelWrites(o)
		for _, t := range behind[at] {
			if t == d {
				continue
			}
			if d != -1 && a.Where[t] == a.Where[d] && !(o.Op == api.OpCopy && t == o.A) {
				return false
			}
			if one(o.Op, api.OpCall, api.OpGet, api.OpPut, api.OpAcq, api.OpRel) && a.Where[t] < 8 {
				return false
			}
		}
	}
	for s := range f.Temps {
		for t := range s {
			if (s < f.Params || slices.Contains(first, s)) && (t < f.Params || slices.Contains(first, t)) && a.Where[s] == a.Where[t] {
				return false
			}
		}
	}
	return true
}

// madeUp is a function that may be by itself, its unnamed fields anything.
func madeUp(r *rand.Rand, temps, ops int) api.Func {
	f := api.Func{Name: "f", Temps: temps, Params: r.Intn(min(temps, 4) + 1)}
	temp := func() int { return r.Intn(temps) }
	for at := range ops {
		o := api.Op{Op: 1 + r.Intn(16), What: 3 + r.Intn(14), Name: "n", D: temp(), A: temp(), B: temp(), N: int64(1 + r.Intn(127)), To: r.Intn(ops)}
		if r.Intn(3) > 0 && one(o.Op, api.OpJump, api.OpRet, api.OpEnd, api.OpTrap) { // else few ways are long
			o.Op = []int{api.OpConst, api.OpCopy, api.OpBin, api.OpPrint, api.OpCopy}[r.Intn(5)]
		}
		if at == ops-1 {
			o.Op = []int{api.OpJump, api.OpRet, api.OpEnd, api.OpTrap}[r.Intn(4)]
		}
		for range r.Intn(4) {
			o.Args = append(o.Args, temp())
		}
		if r.Intn(4) == 0 {
			switch {
			case one(o.Op, api.OpCall, api.OpGet, api.OpPut):
				o.D = -1
			case one(o.Op, api.OpLoad, api.OpStore):
				o.A = -1
			}
		}
		for _, field := range []struct {
			name string
			to   *int
		}{{"D", &o.D}, {"A", &o.A}, {"B", &o.B}, {"To", &o.To}} {
			if !slices.Contains(strings.Fields(has[o.Op]), field.name) && r.Intn(8) == 0 {
				*field.to = []int{-1, -7, temps, 1 << 40, math.MinInt, math.MaxInt}[r.Intn(6)]
			}
		}
		f.Code = append(f.Code, o)
	}
	return f
}
