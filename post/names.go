package post

import (
	"slices"

	"postbag/api"
	"postbag/boxes"
)

func (x *actor) create() error {
	switch {
	case x.place(x.Name) >= 0:
		return api.ErrExists
	case len(x.Boxes) == api.MaxBoxes || x.NextValid == api.MaxUid:
		return api.ErrFull
	}
	x.Boxes = append(x.Boxes, api.Box{User: x.User, Name: x.Name, Valid: x.NextValid, Next: 1})
	slices.SortFunc(x.Boxes, boxOrder)
	x.NextValid++
	return nil
}

func (x *actor) remove() error {
	i := x.place(x.Name)
	switch {
	case x.Name == inbox:
		return api.ErrName
	case i < 0:
		return api.ErrNone
	}
	x.Boxes = slices.Delete(x.Boxes, i, i+1)
	return nil
}

func (x *actor) rename() error {
	switch {
	case x.Name == inbox || x.To == inbox:
		return api.ErrName
	case x.place(x.Name) < 0:
		return api.ErrNone
	case slices.ContainsFunc(x.Boxes, x.getsLongName):
		return api.ErrLong
	case slices.ContainsFunc(x.Boxes, x.getsHeldName):
		return api.ErrExists
	}
	for i, b := range x.Boxes {
		if name, moves := x.newName(b); moves {
			x.Boxes[i].Name = name
		}
	}
	slices.SortFunc(x.Boxes, boxOrder)
	return nil
}

// newName is the name that a box gets by a renaming; false, if it gets none.
func (x *actor) newName(b api.Box) (string, bool) {
	if b.User != x.User {
		return "", false
	}
	return boxes.Moved(b.Name, x.Name, x.To)
}

func (x *actor) getsLongName(b api.Box) bool {
	name, _ := x.newName(b)
	return len(name) > api.MaxBoxName
}

// getsHeldName tells whether a box gets a name that another box keeps, or that it has itself.
func (x *actor) getsHeldName(b api.Box) bool {
	name, moves := x.newName(b)
	if !moves {
		return false
	}
	i := x.place(name)
	return i >= 0 && !x.leavesName(x.Boxes[i])
}

func (x *actor) leavesName(b api.Box) bool {
	name, moves := x.newName(b)
	return moves && name != b.Name
}

func (x *actor) subscribe() error {
	switch {
	case x.subPlace() >= 0:
		return nil
	case len(x.Subs) == api.MaxBoxes:
		return api.ErrFull
	}
	x.Subs = append(x.Subs, x.sub())
	slices.SortFunc(x.Subs, subOrder)
	return nil
}

func (x *actor) unsubscribe() error {
	i := x.subPlace()
	if i < 0 {
		return api.ErrNone
	}
	x.Subs = slices.Delete(x.Subs, i, i+1)
	return nil
}

func (x *actor) sub() api.Sub { return api.Sub{User: x.User, Name: x.Name} }

func (x *actor) subPlace() int { return slices.Index(x.Subs, x.sub()) }
