package asm

import "cotter/api"

// names are those of labels, each with the number of its item.
type names map[string]int

// collect tells what is wrong with names: all labels are known ahead of the first that is asked for.
func collect(l []api.Item) (names, api.Errno) {
	if !unlike(l, isPlace) || !unlike(l, isShown) {
		return nil, api.ErrDuplicate
	}
	n := names{}
	for k, t := range l {
		if t.Kind == api.ItemLabel {
			n[t.Name] = k
		}
	}
	for _, t := range l {
		if (isShown(t) || isJump(t)) && !n.has(t.Name) {
			return nil, api.ErrUndefined
		}
	}
	return n, api.OK
}

func (n names) has(name string) bool {
	_, ok := n[name]
	return ok
}

// unlike tells whether no two of all such items have the same name.
func unlike(l []api.Item, such func(api.Item) bool) bool {
	seen := map[string]struct{}{}
	for _, t := range l {
		if !such(t) {
			continue
		}
		if _, twice := seen[t.Name]; twice {
			return false
		}
		seen[t.Name] = struct{}{}
	}
	return true
}

// isPlace is of items whose name is a place's.
func isPlace(t api.Item) bool {
	return t.Kind == api.ItemLabel || t.Kind == api.ItemWords
}

// isShown is of items by which others see a label.
func isShown(t api.Item) bool {
	return t.Kind == api.ItemGlobal || t.Kind == api.ItemThread
}

func isJump(t api.Item) bool {
	return shortOf(t.Ins.Op) != 0
}

// shortOf is a jump's short one; 0, if it is no jump.
func shortOf(op int) int {
	switch op {
	case api.JMP:
		return api.JMPS
	case api.JZ:
		return api.JZS
	case api.JNZ:
		return api.JNZS
	}
	return 0
}
