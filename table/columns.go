package table

import (
	"gesso/api"
	"gesso/parts"
)

// columns are the names and the values, by rows. Those of kinds that a table hasn't stay empty.
type columns struct {
	ids       []api.ID
	places    []api.Mat
	meshes    []int
	boxes     []api.Box
	pipes     []int
	materials []int
	clears    []bool
	layers    []int
}

// lengthen lays a row behind all.
func (c *columns) lengthen(id api.ID, p api.Parts) {
	c.ids = append(c.ids, id)
	for _, k := range parts.Kinds(p.Has) {
		switch k {
		case api.Place:
			c.places = append(c.places, p.Place)
		case api.Shape:
			c.meshes = append(c.meshes, p.Mesh)
			c.boxes = append(c.boxes, p.Box)
		case api.Paint:
			c.pipes = append(c.pipes, p.Pipe)
			c.materials = append(c.materials, p.Material)
			c.clears = append(c.clears, p.Clear)
		case api.Layer:
			c.layers = append(c.layers, p.Layer)
		}
	}
}

// write lays other values into a row.
func (c *columns) write(row int, p api.Parts) {
	put(c.places, row, p.Place)
	put(c.meshes, row, p.Mesh)
	put(c.boxes, row, p.Box)
	put(c.pipes, row, p.Pipe)
	put(c.materials, row, p.Material)
	put(c.clears, row, p.Clear)
	put(c.layers, row, p.Layer)
}

// read is a row's values.
func (c *columns) read(row int) api.Parts {
	return api.Parts{
		Place:    at(c.places, row),
		Mesh:     at(c.meshes, row),
		Box:      at(c.boxes, row),
		Pipe:     at(c.pipes, row),
		Material: at(c.materials, row),
		Clear:    at(c.clears, row),
		Layer:    at(c.layers, row),
	}
}

// shorten lays the last row into another one's place.
func (c *columns) shorten(row int) {
	c.ids = cut(c.ids, row)
	c.places = cut(c.places, row)
	c.meshes = cut(c.meshes, row)
	c.boxes = cut(c.boxes, row)
	c.pipes = cut(c.pipes, row)
	c.materials = cut(c.materials, row)
	c.clears = cut(c.clears, row)
	c.layers = cut(c.layers, row)
}

// put writes a row's value, if the column isn't an empty one.
func put[T any](column []T, row int, value T) {
	if row < len(column) {
		column[row] = value
	}
}

// at is a row's value; of an empty column a zero one, which is what parts have of a kind that they haven't.
func at[T any](column []T, row int) T {
	var value T
	if row < len(column) {
		value = column[row]
	}
	return value
}

// cut is a column with its last value in a row's place; an empty one stays so.
func cut[T any](column []T, row int) []T {
	if row >= len(column) {
		return column
	}
	last := len(column) - 1
	column[row] = column[last]
	return column[:last]
}
