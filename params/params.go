// Package params is layer 51: see shared/doc/51-params.md.
package params

import (
	"commutator/api"
	"commutator/flash"
)

// MaxParams is the greatest number of parameters.
const MaxParams = 48

// Store: see the document.
type Store struct{}

// Encode: see the document.
func Encode(seq int, values []int) ([][]byte, error) {
	return nil, nil
}

// Decode: see the document.
func Decode(pages [][]byte) (seq int, values []int, err error) {
	return 0, nil, nil
}

// Good: see the document.
func Good(page []byte) bool {
	return false
}

// Open: see the document.
func Open(f *flash.Flash, first, blocks int, spec []api.ParamSpec) (*Store, error) {
	return nil, nil
}

// Get: see the document.
func (s *Store) Get(i int) (int, error) {
	return 0, nil
}

// Set: see the document.
func (s *Store) Set(i, v int) error {
	return nil
}

// Saved: see the document.
func (s *Store) Saved() []int {
	return nil
}

// Sequence: see the document.
func (s *Store) Sequence() int {
	return 0
}

// Begin: see the document.
func (s *Store) Begin() error {
	return nil
}

// Step: see the document.
func (s *Store) Step() (bool, error) {
	return false, nil
}

// Commit: see the document.
func (s *Store) Commit() error {
	return nil
}

// Broken: see the document.
func (s *Store) Broken() bool {
	return false
}
